/- A store and the reference's: the law's Step. -/
import Derived.Test.YtgkgkekgmcldmaaDuo2
namespace Go.Proofs.Ytgkgkekgmcldmaa
open Go.RowKit
theorem dslice_to (a : Option Addr) (m c n : Nat) (hn : n ≤ c) (h0 : a = none → m = 0 ∧ c = 0) (W : World) : (Instr.slice 23 (.slice a m c) none (some (.int .i64 (n : Int))) none).run Try.prog W = .ok (.slice a n c) W := rslice_to a m c n hn h0 W
/-- What was done stays told, and each deed has its number. -/
def OpsUp (σ σ' : St) : Prop := (∀ o ∈ σ.ops, 1 ≤ o.1) → ∀ o ∈ σ'.ops, 1 ≤ o.1
theorem OpsUp.same (σ : St) : OpsUp σ σ := fun h => h
theorem OpsUp.deed (σ : St) (fs : Fs) (k : Int) (n : Nm) (hk : 1 ≤ k) : OpsUp σ (σ.deed fs k n) := fun h o ho => by
  rcases List.mem_append.1 ho with ho | ho
  · exact h o ho
  · simp at ho; subst ho; exact hk
theorem OpsUp.write (σ : St) (n : Nm) (b : List Int) : OpsUp σ (σ.write n b).2 := by
  unfold St.write
  split
  · exact OpsUp.same _
  · split
    · exact OpsUp.same _
    · exact OpsUp.deed _ _ _ _ (by omega)
theorem OpsUp.sync (σ : St) (n : Nm) : OpsUp σ (σ.sync n).2 := by
  unfold St.sync
  split
  · exact OpsUp.same _
  · exact OpsUp.deed _ _ _ _ (by omega)
theorem OpsUp.remove (σ : St) (n : Nm) : OpsUp σ (σ.remove n).2 := by
  unfold St.remove
  split
  · exact OpsUp.same _
  · exact OpsUp.deed _ _ _ _ (by omega)
theorem OpsUp.publish (σ : St) (a n : Nm) : OpsUp σ (σ.publish a n).2 := by
  unfold St.publish
  split
  · exact OpsUp.same _
  · split
    · exact OpsUp.same _
    · split
      · exact OpsUp.same _
      · split
        · exact OpsUp.same _
        · exact OpsUp.deed _ _ _ _ (by omega)
set_option maxRecDepth 100000 in
set_option maxHeartbeats 8000000 in
theorem step_any {a w : World} {p q c : Nat} {σ : St} (x : Int) (P : Option Addr) (m cap : Nat) (bs : List Int) (h : Duo a w p q σ σ c) (hc : c ≤ 999990) (hn : inK .i64 x) (hb : Nums .u8 a P m bs) (hm : m ≤ 1000) (hmc : m ≤ cap) (hcap : cap ≤ 9223372036854775807) (hP : P = none → m = 0 ∧ cap = 0) :
    Calls Try.prog 11 #[.pointer (some ⟨p, 0, none⟩), .pointer (some ⟨q, 0, none⟩), .int .i64 x, .slice P m cap] w fun e w' => ∃ σ', e = .returned (.bool true) ∧ Duo a w' p q σ' σ' (c + 2) ∧ OpsUp σ σ' := by
  obtain ⟨k, hk⟩ : ∃ k, k = x.tdiv 8 := ⟨_, rfl⟩
  have hki : inK .i64 k := hk ▸ tdiv_in hn (by omega)
  have hk2 : inK .i64 (k.tdiv 11) := tdiv_in hki (by omega)
  obtain ⟨k2, ek2⟩ : ∃ k2, k2 = k.tdiv 11 := ⟨_, rfl⟩
  rw [← ek2] at hk2
  obtain ⟨z, hz⟩ : ∃ z, z = x % 8 := ⟨_, rfl⟩
  have hz1 : z = 0 ∨ z = 1 ∨ z = 2 ∨ z = 3 ∨ z = 4 ∨ z = 5 ∨ z = 6 ∨ z = 7 := by omega
  have wz := fun W => wi4 x 8 W hn (by omega) (by omega)
  rw [← hz] at wz
  have Wz := Lib.hid wz
  have H := Lib.hid h
  have Hb := Lib.hid hb
  have HP := Lib.hid hP
  have Hk := Lib.hid hk
  have Ek2 := Lib.hid ek2
  obtain ⟨x1, x2⟩ := hn
  obtain ⟨k1a, k1b⟩ := hki
  obtain ⟨k2a, k2b⟩ := hk2
  have Hki := Lib.hid (show inK .i64 k from ⟨k1a, k1b⟩)
  have Hk2i := Lib.hid (show inK .i64 k2 from ⟨k2a, k2b⟩)
  have Ln := Lib.hid (nameT_len k)
  have Ln2 := Lib.hid (nameT_len k2)
  have Nk := Lib.hid (fun W => name_any k W Hki.out)
  have Nk2 := Lib.hid (fun W => name_any k2 W Hk2i.out)
  generalize nameT k = nm at Ln Nk
  generalize nameT k2 = nm2 at Ln2 Nk2
  clear wz h hb hP hk hz ek2
  rcases hz1 with rfl | rfl | rfl | rfl | rfl | rfl | rfl | rfl
  · obtain ⟨r, hr⟩ : ∃ r : Nat, (r : Int) = k2 % ((m : Int) + 1) := by
      have := Int.emod_nonneg k2 (show (m : Int) + 1 ≠ 0 by omega)
      exact ⟨(k2 % ((m : Int) + 1)).toNat, by omega⟩
    have hrl : r ≤ m := by
      have := Int.emod_lt_of_pos k2 (show (0 : Int) < (m : Int) + 1 by omega)
      omega
    have wr := fun W => wi4 k2 ((m : Int) + 1) W Hk2i.out (by omega) (by omega)
    rw [← hr] at wr
    have Wr := Lib.hid wr
    have ks := dslice_to P m cap r (by omega) HP.out
    have hx := Hb.out.take r hrl
    have Hx := Lib.hid hx
    clear hr wr hx
    go_enter Try.func11, Try.ntmps11
    go_wp2_with fail
    try rw [← Hk.out]
    refine (Wz.out _).mono ?_
    rintro e w1 ⟨rfl, rfl⟩
    go_wp2_with fail
    try rw [← Ek2.out]
    refine (Wr.out _).mono ?_
    rintro e w1 ⟨rfl, rfl⟩
    go_wp2_with fail
    refine (Nk.out _).mono ?_
    rintro e w1 ⟨rfl, h1⟩
    have H1 := Lib.hid (H.out.below h1)
    clear h1
    go_wp2_with fail
    obtain ⟨r0, hr0⟩ : ∃ r0, (σ.write nm (bs.take r)).1 = r0 := ⟨_, rfl⟩
    have Hr0 := Lib.hid hr0
    clear hr0
    refine (H1.out.write nm P r cap (bs.take r) r0 Hr0.out Ln.out (by omega) Hx.out (by omega) (by omega) hcap).mono ?_
    rintro e w2 ⟨rfl, h2⟩
    have H2 := Lib.hid h2
    clear h2 H1
    go_wp2_with fail
    refine (Nk.out _).mono ?_
    rintro e w3 ⟨rfl, h3⟩
    have H3 := Lib.hid (H2.out.below h3)
    clear h3
    go_wp2_with fail
    refine (H3.out.writeR nm P r cap (bs.take r) r0 Hr0.out Ln.out (by omega) Hx.out (by omega) (fun e => (HP.out e).2)).mono ?_
    rintro e w4 ⟨rfl, h4⟩
    have H4 := Lib.hid h4
    clear h4 H3
    go_wp2
    go_ret
    exact ⟨_, rfl, H4.out, OpsUp.write _ _ _⟩
  · obtain ⟨r, hr⟩ : ∃ r : Nat, (r : Int) = k2 % ((m : Int) + 1) := by
      have := Int.emod_nonneg k2 (show (m : Int) + 1 ≠ 0 by omega)
      exact ⟨(k2 % ((m : Int) + 1)).toNat, by omega⟩
    have hrl : r ≤ m := by
      have := Int.emod_lt_of_pos k2 (show (0 : Int) < (m : Int) + 1 by omega)
      omega
    have wr := fun W => wi4 k2 ((m : Int) + 1) W Hk2i.out (by omega) (by omega)
    rw [← hr] at wr
    have Wr := Lib.hid wr
    have ks := dslice_to P m cap r (by omega) HP.out
    have hx := Hb.out.take r hrl
    have Hx := Lib.hid hx
    clear hr wr hx
    go_enter Try.func11, Try.ntmps11
    go_wp2_with fail
    try rw [← Hk.out]
    refine (Wz.out _).mono ?_
    rintro e w1 ⟨rfl, rfl⟩
    go_wp2_with fail
    try rw [← Ek2.out]
    refine (Wr.out _).mono ?_
    rintro e w1 ⟨rfl, rfl⟩
    go_wp2_with fail
    refine (Nk.out _).mono ?_
    rintro e w1 ⟨rfl, h1⟩
    have H1 := Lib.hid (H.out.below h1)
    clear h1
    go_wp2_with fail
    obtain ⟨r0, hr0⟩ : ∃ r0, (σ.write nm (bs.take r)).1 = r0 := ⟨_, rfl⟩
    have Hr0 := Lib.hid hr0
    clear hr0
    refine (H1.out.write nm P r cap (bs.take r) r0 Hr0.out Ln.out (by omega) Hx.out (by omega) (by omega) hcap).mono ?_
    rintro e w2 ⟨rfl, h2⟩
    have H2 := Lib.hid h2
    clear h2 H1
    go_wp2_with fail
    refine (Nk.out _).mono ?_
    rintro e w3 ⟨rfl, h3⟩
    have H3 := Lib.hid (H2.out.below h3)
    clear h3
    go_wp2_with fail
    refine (H3.out.writeR nm P r cap (bs.take r) r0 Hr0.out Ln.out (by omega) Hx.out (by omega) (fun e => (HP.out e).2)).mono ?_
    rintro e w4 ⟨rfl, h4⟩
    have H4 := Lib.hid h4
    clear h4 H3
    go_wp2
    go_ret
    exact ⟨_, rfl, H4.out, OpsUp.write _ _ _⟩
  · obtain ⟨r, hr⟩ : ∃ r : Nat, (r : Int) = k2 % ((m : Int) + 1) := by
      have := Int.emod_nonneg k2 (show (m : Int) + 1 ≠ 0 by omega)
      exact ⟨(k2 % ((m : Int) + 1)).toNat, by omega⟩
    have hrl : r ≤ m := by
      have := Int.emod_lt_of_pos k2 (show (0 : Int) < (m : Int) + 1 by omega)
      omega
    have wr := fun W => wi4 k2 ((m : Int) + 1) W Hk2i.out (by omega) (by omega)
    rw [← hr] at wr
    have Wr := Lib.hid wr
    have ks := dslice_to P m cap r (by omega) HP.out
    have hx := Hb.out.take r hrl
    have Hx := Lib.hid hx
    clear hr wr hx
    go_enter Try.func11, Try.ntmps11
    go_wp2_with fail
    try rw [← Hk.out]
    refine (Wz.out _).mono ?_
    rintro e w1 ⟨rfl, rfl⟩
    go_wp2_with fail
    try rw [← Ek2.out]
    refine (Wr.out _).mono ?_
    rintro e w1 ⟨rfl, rfl⟩
    go_wp2_with fail
    refine (Nk.out _).mono ?_
    rintro e w1 ⟨rfl, h1⟩
    have H1 := Lib.hid (H.out.below h1)
    clear h1
    go_wp2_with fail
    obtain ⟨r0, hr0⟩ : ∃ r0, (σ.write nm (bs.take r)).1 = r0 := ⟨_, rfl⟩
    have Hr0 := Lib.hid hr0
    clear hr0
    refine (H1.out.write nm P r cap (bs.take r) r0 Hr0.out Ln.out (by omega) Hx.out (by omega) (by omega) hcap).mono ?_
    rintro e w2 ⟨rfl, h2⟩
    have H2 := Lib.hid h2
    clear h2 H1
    go_wp2_with fail
    refine (Nk.out _).mono ?_
    rintro e w3 ⟨rfl, h3⟩
    have H3 := Lib.hid (H2.out.below h3)
    clear h3
    go_wp2_with fail
    refine (H3.out.writeR nm P r cap (bs.take r) r0 Hr0.out Ln.out (by omega) Hx.out (by omega) (fun e => (HP.out e).2)).mono ?_
    rintro e w4 ⟨rfl, h4⟩
    have H4 := Lib.hid h4
    clear h4 H3
    go_wp2
    go_ret
    exact ⟨_, rfl, H4.out, OpsUp.write _ _ _⟩
  · go_enter Try.func11, Try.ntmps11
    go_wp2_with fail
    try rw [← Hk.out]
    refine (Wz.out _).mono ?_
    rintro e w1 ⟨rfl, rfl⟩
    go_wp2_with fail
    refine (Nk.out _).mono ?_
    rintro e w1 ⟨rfl, h1⟩
    have H1 := Lib.hid (H.out.below h1)
    clear h1
    go_wp2_with fail
    obtain ⟨r0, hr0⟩ : ∃ r0, (σ.sync nm).1 = r0 := ⟨_, rfl⟩
    have Hr0 := Lib.hid hr0
    clear hr0
    refine (H1.out.sync nm r0 Hr0.out Ln.out (by omega)).mono ?_
    rintro e w2 ⟨rfl, h2⟩
    have H2 := Lib.hid h2
    clear h2 H1
    go_wp2_with fail
    refine (Nk.out _).mono ?_
    rintro e w3 ⟨rfl, h3⟩
    have H3 := Lib.hid (H2.out.below h3)
    clear h3
    go_wp2_with fail
    refine (H3.out.syncR nm r0 Hr0.out (by omega)).mono ?_
    rintro e w4 ⟨rfl, h4⟩
    have H4 := Lib.hid h4
    clear h4 H3
    go_wp2
    go_ret
    exact ⟨_, rfl, H4.out, OpsUp.sync _ _⟩
  · go_enter Try.func11, Try.ntmps11
    go_wp2_with fail
    try rw [← Hk.out]
    refine (Wz.out _).mono ?_
    rintro e w1 ⟨rfl, rfl⟩
    go_wp2_with fail
    refine (Nk.out _).mono ?_
    rintro e w1 ⟨rfl, h1⟩
    have H1 := Lib.hid (H.out.below h1)
    clear h1
    go_wp2_with fail
    obtain ⟨r0, hr0⟩ : ∃ r0, (σ.sync nm).1 = r0 := ⟨_, rfl⟩
    have Hr0 := Lib.hid hr0
    clear hr0
    refine (H1.out.sync nm r0 Hr0.out Ln.out (by omega)).mono ?_
    rintro e w2 ⟨rfl, h2⟩
    have H2 := Lib.hid h2
    clear h2 H1
    go_wp2_with fail
    refine (Nk.out _).mono ?_
    rintro e w3 ⟨rfl, h3⟩
    have H3 := Lib.hid (H2.out.below h3)
    clear h3
    go_wp2_with fail
    refine (H3.out.syncR nm r0 Hr0.out (by omega)).mono ?_
    rintro e w4 ⟨rfl, h4⟩
    have H4 := Lib.hid h4
    clear h4 H3
    go_wp2
    go_ret
    exact ⟨_, rfl, H4.out, OpsUp.sync _ _⟩
  · go_enter Try.func11, Try.ntmps11
    go_wp2_with fail
    try rw [← Hk.out]
    refine (Wz.out _).mono ?_
    rintro e w1 ⟨rfl, rfl⟩
    go_wp2_with fail
    refine (Nk.out _).mono ?_
    rintro e w1 ⟨rfl, h1⟩
    have H1 := Lib.hid (H.out.below h1)
    clear h1
    go_wp2_with fail
    try rw [← Ek2.out]
    refine (Nk2.out _).mono ?_
    rintro e w1 ⟨rfl, h1⟩
    have H1b := Lib.hid (H1.out.below h1)
    clear h1
    go_wp2_with fail
    obtain ⟨r0, hr0⟩ : ∃ r0, (σ.publish nm nm2).1 = r0 := ⟨_, rfl⟩
    have Hr0 := Lib.hid hr0
    clear hr0
    refine (H1b.out.publish nm nm2 r0 Hr0.out Ln.out Ln2.out (by omega)).mono ?_
    rintro e w2 ⟨rfl, h2⟩
    have H2 := Lib.hid h2
    clear h2 H1b
    go_wp2_with fail
    refine (Nk.out _).mono ?_
    rintro e w3 ⟨rfl, h3⟩
    have H3 := Lib.hid (H2.out.below h3)
    clear h3
    go_wp2_with fail
    try rw [← Ek2.out]
    refine (Nk2.out _).mono ?_
    rintro e w3 ⟨rfl, h3⟩
    have H3b := Lib.hid (H3.out.below h3)
    clear h3
    go_wp2_with fail
    refine (H3b.out.publishR nm nm2 r0 Hr0.out Ln2.out (by omega)).mono ?_
    rintro e w4 ⟨rfl, h4⟩
    have H4 := Lib.hid h4
    clear h4 H3b
    go_wp2
    go_ret
    exact ⟨_, rfl, H4.out, OpsUp.publish _ _ _⟩
  · go_enter Try.func11, Try.ntmps11
    go_wp2_with fail
    try rw [← Hk.out]
    refine (Wz.out _).mono ?_
    rintro e w1 ⟨rfl, rfl⟩
    go_wp2_with fail
    refine (Nk.out _).mono ?_
    rintro e w1 ⟨rfl, h1⟩
    have H1 := Lib.hid (H.out.below h1)
    clear h1
    go_wp2_with fail
    try rw [← Ek2.out]
    refine (Nk2.out _).mono ?_
    rintro e w1 ⟨rfl, h1⟩
    have H1b := Lib.hid (H1.out.below h1)
    clear h1
    go_wp2_with fail
    obtain ⟨r0, hr0⟩ : ∃ r0, (σ.publish nm nm2).1 = r0 := ⟨_, rfl⟩
    have Hr0 := Lib.hid hr0
    clear hr0
    refine (H1b.out.publish nm nm2 r0 Hr0.out Ln.out Ln2.out (by omega)).mono ?_
    rintro e w2 ⟨rfl, h2⟩
    have H2 := Lib.hid h2
    clear h2 H1b
    go_wp2_with fail
    refine (Nk.out _).mono ?_
    rintro e w3 ⟨rfl, h3⟩
    have H3 := Lib.hid (H2.out.below h3)
    clear h3
    go_wp2_with fail
    try rw [← Ek2.out]
    refine (Nk2.out _).mono ?_
    rintro e w3 ⟨rfl, h3⟩
    have H3b := Lib.hid (H3.out.below h3)
    clear h3
    go_wp2_with fail
    refine (H3b.out.publishR nm nm2 r0 Hr0.out Ln2.out (by omega)).mono ?_
    rintro e w4 ⟨rfl, h4⟩
    have H4 := Lib.hid h4
    clear h4 H3b
    go_wp2
    go_ret
    exact ⟨_, rfl, H4.out, OpsUp.publish _ _ _⟩
  · go_enter Try.func11, Try.ntmps11
    go_wp2_with fail
    try rw [← Hk.out]
    refine (Wz.out _).mono ?_
    rintro e w1 ⟨rfl, rfl⟩
    go_wp2_with fail
    refine (Nk.out _).mono ?_
    rintro e w1 ⟨rfl, h1⟩
    have H1 := Lib.hid (H.out.below h1)
    clear h1
    go_wp2_with fail
    obtain ⟨r0, hr0⟩ : ∃ r0, (σ.remove nm).1 = r0 := ⟨_, rfl⟩
    have Hr0 := Lib.hid hr0
    clear hr0
    refine (H1.out.remove nm r0 Hr0.out Ln.out (by omega)).mono ?_
    rintro e w2 ⟨rfl, h2⟩
    have H2 := Lib.hid h2
    clear h2 H1
    go_wp2_with fail
    refine (Nk.out _).mono ?_
    rintro e w3 ⟨rfl, h3⟩
    have H3 := Lib.hid (H2.out.below h3)
    clear h3
    go_wp2_with fail
    refine (H3.out.removeR nm r0 Hr0.out (by omega)).mono ?_
    rintro e w4 ⟨rfl, h4⟩
    have H4 := Lib.hid h4
    clear h4 H3
    go_wp2
    go_ret
    exact ⟨_, rfl, H4.out, OpsUp.remove _ _⟩
end Go.Proofs.Ytgkgkekgmcldmaa
