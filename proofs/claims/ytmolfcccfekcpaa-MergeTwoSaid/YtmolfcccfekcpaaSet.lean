/- Package cell's Group of no cells; of 60 at most. -/
import Derived.Deep.Upon
import Derived.Test.YtmolfcccfekcpaaGroupN
import Derived.Test.YtmolfcccfekcpaaRof
import Derived.Test.YtmolfcccfekcpaaCelg
namespace Go.Proofs.Ytmolfcccfekcpaa
open Go.RowKit Go.Shelf
attribute [local go_sem] Oper.semAt_some
theorem even0 (P : Option Addr) (c : Nat) (w : World) : Calls Try.prog 60 #[.slice P 0 c] w fun e w' => e = .returned (.bool true) ∧ Below w.heap.size w w' := by
  have d1 : decide ((0 : Int) < ((0 : Nat) : Int)) = false := rfl
  go_enter Try.func60, Try.ntmps60
  go_wp2_with fail
  go_loopw [8] (fun i wr => i = .int .i64 0 ∧ wr = w) (fun _ _ => 0)
  case atStart => exact ⟨rfl, rfl⟩
  case round =>
    obtain ⟨rfl, rfl⟩ := hrel
    go_wp2
    go_ret
    exact ⟨rfl, Below.refl _ _⟩
end Go.Proofs.Ytmolfcccfekcpaa
/- The reference's Same, of rows that read the same; Make. -/
namespace Go.Proofs.Ytmolfcccfekcpaa
open Go.RowKit Go.Shelf
def RowC (w : World) (P : Option Addr) (N : Nat) (L : List Cel) : Prop := 0 < N → ∃ ad, P = some ad ∧ CellsR w ad L
theorem RowC.keep {w w' : World} {P : Option Addr} {N : Nat} {L : List Cel} (h : RowC w P N L) (hk : Keeps w w') : RowC w' P N L := fun hn => by
  obtain ⟨ad, e, hc⟩ := h hn
  exact ⟨ad, e, hc.keep hk⟩
theorem GRs.rowC {B : Nat} {X : World} {P : Option Addr} {N c : Nat} {us : List V5} {J : List Cel} (h : GRs B X (.slice P N c) us J) : RowC X P N J ∧ N = J.length := by
  obtain ⟨P', c', e, -, -, h2, -⟩ := h.form
  injection e with e1 e2 _
  subst e1
  refine ⟨fun hn => ?_, by rw [e2]; exact h.len⟩
  obtain ⟨g, rfl, -, -, hc, -⟩ := h2 (by omega)
  exact ⟨_, rfl, hc⟩
/-- Few enough. -/
def FewC (L : List Cel) : Prop := ∀ x ∈ L, x.key.length ≤ 1000000 ∧ x.sum.length ≤ 1000000 ∧ x.mn.length ≤ 1000000 ∧ x.mx.length ≤ 1000000
set_option maxRecDepth 100000 in
set_option maxHeartbeats 4000000 in
theorem same_yes (P Q : Option Addr) (N c d : Nat) (L : List Cel) (w : World) (h1 : RowC w P N L) (h2 : RowC w Q N L) (hN : N = L.length) (hf : FewC L) (hn : N ≤ 1000000) :
    Calls Try.prog 21 #[.slice P N c, .slice Q N d] w fun e w' => e = .returned (.bool true) ∧ Below w.heap.size w w' := by
  have H1 := Lib.hid h1
  have H2 := Lib.hid h2
  have HN := Lib.hid hN
  have HF := Lib.hid hf
  clear h1 h2 hN hf
  have d0 : ((N : Int) != (N : Int)) = false := by simp
  go_enter Try.func21, Try.ntmps21
  go_wp2_with fail
  go_loopw [5] (fun v wr => ∃ k : Nat, v = .int .i64 k ∧ k ≤ N ∧ Below w.heap.size w wr) (fun v _ => N - (intOf v).toNat)
  case atStart => exact ⟨0, rfl, Nat.zero_le _, Below.refl _ _⟩
  case round =>
    obtain ⟨k, rfl, hk, hb⟩ := hrel
    rename World => wr
    have Hb := Lib.hid hb
    clear hb
    by_cases hlt : k < N
    · have d1 : decide ((k : Int) < (N : Int)) = true := decide_eq_true (by omega)
      obtain ⟨x, hx⟩ : ∃ x, L[k]? = some x := ⟨_, List.getElem?_eq_getElem (by have := HN.out; omega)⟩
      obtain ⟨ad, rfl, hp⟩ := H1.out.keep (Keeps.of_below Hb.out) (by omega)
      obtain ⟨bd, rfl, hq⟩ := H2.out.keep (Keeps.of_below Hb.out) (by omega)
      obtain ⟨f1, f2, f3, f4⟩ := HF.out x (List.mem_of_getElem? hx)
      obtain ⟨vk, vs, vn, vm, a0, a1, a2, a3, a4, hcx, _⟩ := hp k x hx
      obtain ⟨uk, us, un, um, b0, b1, b2, b3, b4, hcy, _⟩ := hq k x hx
      have Hcx := Lib.hid hcx
      have Hcy := Lib.hid hcy
      have i0 : (0 : Int) ≤ (k : Int) := by omega
      have i1 : (k : Int) < (N : Int) := by omega
      have kw : Keeps wr wr.drew := (Keeps.refl wr).drewN 1
      clear hcx hcy hx hp hq
      go_wp2_with fail
      refine wp_region_held_drew (S := fun W => Keeps wr W) (by kernel_rfl) (show Keeps wr wr.drew from kw) (fun hHeld => ?_)
      refine wpAnyH_take (i := 0) (v := ?va0) rfl (by kernel_rfl) (by kernel_rfl) (by kernel_rfl) (fun _ _ _ h => h) (Or.inl ⟨by rfl, ?ya0⟩) hHeld ?ra0
      case ya0 => (intro W hW; go_simp; first | done | with_reducible rfl)
      try simp only [List.getElem_toArray, List.getElem_cons_zero, Act.put, List.setIfInBounds_toArray, List.set_cons_zero, List.set_cons_succ]
      refine wpAnyH_take (i := 1) (v := ?va1) rfl (by kernel_rfl) (by kernel_rfl) (by kernel_rfl) (fun _ _ _ h => h) (Or.inl ⟨by rfl, ?ya1⟩) hHeld ?ra1
      case ya1 => (intro W hW; go_simp; first | done | with_reducible rfl)
      try simp only [List.getElem_toArray, List.getElem_cons_succ, List.getElem_cons_zero, Act.put, List.setIfInBounds_toArray, List.set_cons_zero, List.set_cons_succ]
      refine wpAnyH_take (i := 2) (v := ?va2) rfl (by kernel_rfl) (by kernel_rfl) (by kernel_rfl) (fun _ _ _ h => h) (Or.inl ⟨by rfl, ?ya2⟩) hHeld ?ra2
      case ya2 => (intro W hW; go_simp; first | done | with_reducible rfl)
      try simp only [List.getElem_toArray, List.getElem_cons_succ, List.getElem_cons_zero, Act.put, List.setIfInBounds_toArray, List.set_cons_zero, List.set_cons_succ]
      refine wpAnyH_take (i := 3) (v := ?va3) rfl (by kernel_rfl) (by kernel_rfl) (by kernel_rfl) (fun _ _ _ h => h) (Or.inl ⟨by rfl, ?ya3⟩) hHeld ?ra3
      case ya3 => (intro W hW; have g0 := hW _ _ a0; have g1 := hW _ _ a1; have g2 := hW _ _ a2; have g3 := hW _ _ a3; have g4 := hW _ _ a4; have p0 := hW _ _ b0; have p1 := hW _ _ b1; have p2 := hW _ _ b2; have p3 := hW _ _ b3; have p4 := hW _ _ b4; clear hW; go_simp; first | done | with_reducible rfl)
      try simp only [List.getElem_toArray, List.getElem_cons_succ, List.getElem_cons_zero, Act.put, List.setIfInBounds_toArray, List.set_cons_zero, List.set_cons_succ]
      refine wpAnyH_take (i := 4) (v := ?va4) rfl (by kernel_rfl) (by kernel_rfl) (by kernel_rfl) (fun _ _ _ h => h) (Or.inl ⟨by rfl, ?ya4⟩) hHeld ?ra4
      case ya4 => (intro W hW; go_simp; first | done | with_reducible rfl)
      try simp only [List.getElem_toArray, List.getElem_cons_succ, List.getElem_cons_zero, Act.put, List.setIfInBounds_toArray, List.set_cons_zero, List.set_cons_succ]
      refine wpAnyH_take (i := 5) (v := ?va5) rfl (by kernel_rfl) (by kernel_rfl) (by kernel_rfl) (fun _ _ _ h => h) (Or.inl ⟨by rfl, ?ya5⟩) hHeld ?ra5
      case ya5 => (intro W hW; go_simp; first | done | with_reducible rfl)
      try simp only [List.getElem_toArray, List.getElem_cons_succ, List.getElem_cons_zero, Act.put, List.setIfInBounds_toArray, List.set_cons_zero, List.set_cons_succ]
      refine wpAnyH_take (i := 6) (v := ?va6) rfl (by kernel_rfl) (by kernel_rfl) (by kernel_rfl) (fun _ _ _ h => h) (Or.inl ⟨by rfl, ?ya6⟩) hHeld ?ra6
      case ya6 => (intro W hW; go_simp; first | done | with_reducible rfl)
      try simp only [List.getElem_toArray, List.getElem_cons_succ, List.getElem_cons_zero, Act.put, List.setIfInBounds_toArray, List.set_cons_zero, List.set_cons_succ]
      refine wpAnyH_take (i := 7) (v := ?va7) rfl (by kernel_rfl) (by kernel_rfl) (by kernel_rfl) (fun _ _ _ h => h) (Or.inl ⟨by rfl, ?ya7⟩) hHeld ?ra7
      case ya7 => (intro W hW; have g0 := hW _ _ a0; have g1 := hW _ _ a1; have g2 := hW _ _ a2; have g3 := hW _ _ a3; have g4 := hW _ _ a4; have p0 := hW _ _ b0; have p1 := hW _ _ b1; have p2 := hW _ _ b2; have p3 := hW _ _ b3; have p4 := hW _ _ b4; clear hW; go_simp; first | done | with_reducible rfl)
      try simp only [List.getElem_toArray, List.getElem_cons_succ, List.getElem_cons_zero, Act.put, List.setIfInBounds_toArray, List.set_cons_zero, List.set_cons_succ]
      refine wpAnyH_ready (rs := [8]) (by kernel_rfl) (by simp) ?_
      refine AllReadyH.cons rfl (fun K hK => ?_) (AllReadyH.nil)
      go_simp
      refine (equal_yes _ _ _ _ _ _ _ _ x wr.drew (Hcx.out.keep kw) (Hcy.out.keep kw) f1 f2 f3 f4).mono ?_
      rintro e V ⟨rfl, hbv⟩
      have HV := Lib.hid ((below_drewN Hb.out 1).trans (hbv.mono (show w.heap.size ≤ wr.drew.heap.size from Hb.out.size)))
      have HK := Lib.hid (kw.trans (Keeps.of_below hbv))
      clear hbv
      refine hK.out _ _ (HK.out) (fun hHeld => ?_)
      clear hK K
      try simp only [List.getElem_toArray, List.getElem_cons_succ, List.getElem_cons_zero, Act.put, List.setIfInBounds_toArray, List.set_cons_zero, List.set_cons_succ]
      refine wpAnyH_take (i := 9) (v := ?va9) rfl (by kernel_rfl) (by kernel_rfl) (by kernel_rfl) (fun _ _ _ h => h) (Or.inl ⟨by rfl, ?ya9⟩) hHeld ?ra9
      case ya9 => (intro W hW; go_simp; first | done | with_reducible rfl)
      try simp only [List.getElem_toArray, List.getElem_cons_succ, List.getElem_cons_zero, Act.put, List.setIfInBounds_toArray, List.set_cons_zero, List.set_cons_succ]
      refine wpAnyH_done (by kernel_rfl) ?_ _
      go_wp2
      go_roundw
      case rel => exact ⟨k + 1, by go_num, by omega, HV.out⟩
      case measure => simp [intOf]; omega
    · obtain rfl : k = N := by omega
      have d1 : decide ((k : Int) < (k : Int)) = false := by simp
      go_wp2
      go_ret
      exact ⟨rfl, Hb.out⟩
/-- What a row comes to. -/
def ofC (set : Int) (r : Fact) : Cel := ⟨pk r.key set r.key.length, 1, r.m, r.m, r.m⟩
theorem RowsX.at_ {w : World} {C : Nat} {D : Option Addr} {m d : Nat} {l : List Fact} (h : RowsX w C (.slice D m d) l) (hs : ∀ r ∈ l, (∀ x ∈ r.key, inK .i64 x) ∧ ∀ x ∈ r.m, inK .i64 x) (hm : l.length = m) {i : Nat} {r : Fact} (hr : l[i]? = some r) :
    ∃ ad kv mv, D = some ad ∧ w.cell? (ad.add (i * 2)) = some kv ∧ w.cell? (ad.add (i * 2 + 1)) = some mv ∧ RI w kv r.key ∧ RI w mv r.m := by
  obtain ⟨vs, h1, h2, h3, -⟩ := h
  have hil := (List.getElem?_eq_some_iff.1 hr).1
  obtain ⟨P, c, hv, -, -, hc⟩ := own_form h2
  obtain ⟨g, rfl, -, hg⟩ := hc (by omega)
  injection hv with hv _ _
  obtain ⟨p, hp⟩ : ∃ p, vs[i]? = some p := ⟨_, List.getElem?_eq_getElem (by omega)⟩
  obtain ⟨c1, c2⟩ := cellsV_at hp
  obtain ⟨k1, k2⟩ := h3 i p r hp hr
  have hm' := hs r (List.mem_of_getElem? hr)
  exact ⟨_, p.1, p.2, hv, by rw [add0]; exact hg _ _ c1, by rw [add0]; exact hg _ _ c2, (show OI C w p.1 r.key from ⟨k1, hm'.1⟩).ri, (show OI C w p.2 r.m from ⟨k2, hm'.2⟩).ri⟩
end Go.Proofs.Ytmolfcccfekcpaa
/- The laws' Set. -/
namespace Go.Proofs.Ytmolfcccfekcpaa
open Go.RowKit Go.Shelf
set_option maxRecDepth 100000 in
set_option maxHeartbeats 2000000 in
theorem set_any (A : Option Addr) (q c : Nat) (mm n : Int) (w : World) (h1 : 1 ≤ q) (h4 : q ≤ 4) (hn : inK .i64 n) :
    Calls Try.prog 17 #[.agg #[.slice A q c, .int .i64 mm], .int .i64 n] w fun e w' => e = .returned (.int .i64 (n % 2 ^ q)) ∧ w' = w.alloc (.cells #[.slice A q c, .int .i64 mm] 25) := by
  have HW := Lib.hid (fun (m : Int) (W : World) (h1 : 1 ≤ m) (h2 : m ≤ 16) => lwithin2 n m W hn h1 (by omega))
  clear hn
  rcases (by omega : q = 1 ∨ q = 2 ∨ q = 3 ∨ q = 4) with rfl | rfl | rfl | rfl
  all_goals
    go_enter Try.func17, Try.ntmps17
    go_wp2_with fail
    refine (HW.out _ _ (by decide) (by decide)).mono ?_
    rintro e w1 ⟨rfl, rfl⟩
    go_wp2
    go_ret
    exact ⟨rfl, rfl⟩
theorem set_bd (n : Int) (q : Nat) (h1 : 1 ≤ q) (h4 : q ≤ 4) : 0 ≤ n % 2 ^ q ∧ n % 2 ^ q ≤ 15 ∧ n % 2 ^ q ≤ fullB q := by
  unfold fullB
  rcases (by omega : q = 1 ∨ q = 2 ∨ q = 3 ∨ q = 4) with rfl | rfl | rfl | rfl <;> simp <;> omega
end Go.Proofs.Ytmolfcccfekcpaa
