/- Package cell's Group: cells of one key, 19 at most. -/
import Derived.Deep.QuietTactic
import Derived.BigQuiet
import Derived.Test.YtmolfcccfekcpaaCel9
import Derived.Test.YtmolfcccfekcpaaCel0
namespace Go.Proofs.Ytmolfcccfekcpaa
open Go.RowKit Go.Shelf
attribute [local go_sem] Oper.semAt_some
theorem SortedC.one {key : List Int} {l : List Cel} (h : OneKey key l) : SortedC l := fun i x y hx hy => by
  rw [h x (List.mem_of_getElem? hx), h y (List.mem_of_getElem? hy), cmpL_self]
  exact Int.le_refl _
end Go.Proofs.Ytmolfcccfekcpaa
/- Package cell's values: those of a set's dimensions. -/
namespace Go.Proofs.Ytmolfcccfekcpaa
open Go.RowKit Go.Shelf
attribute [local go_sem] Oper.semAt_some
def pick (xs : List Int) (frm : Int) (d : Int) : Int := xs[(plc frm d).toNat]?.getD 0
theorem ownFrom_pure {β : Type} {B : Nat} (p : Prop) : OwnFrom B (fun (_ : β) (_ : World) => p) := fun _ _ _ _ h _ _ => h
end Go.Proofs.Ytmolfcccfekcpaa
/- Package cell's Of. -/
namespace Go.Proofs.Ytmolfcccfekcpaa
open Go.RowKit
/-- What of a key a set picks. -/
def ofKey (key : List Int) (set : Int) : List Int := (dimsL set).map (pick key (fullB key.length))
theorem pick_ok {key : List Int} (h : ∀ x ∈ key, inK .i64 x) (f d : Int) : inK .i64 (pick key f d) := by
  unfold pick
  cases hx : key[(plc f d).toNat]? with
  | none => simp [inK]
  | some x => exact h x (List.mem_of_getElem? hx)
theorem full_range (d : Nat) (h : d ≤ 4) : 0 ≤ fullB d ∧ fullB d ≤ 15 := by
  rcases (by omega : d = 0 ∨ d = 1 ∨ d = 2 ∨ d = 3 ∨ d = 4) with rfl | rfl | rfl | rfl | rfl <;> decide
theorem plc_full (d : Nat) (h : d ≤ 4) (set : Int) (h1 : 0 ≤ set) (h2 : set ≤ fullB d) (x : Int) (hx : x ∈ dimsL set) : 0 ≤ plc (fullB d) x ∧ plc (fullB d) x < d := by
  rcases (by omega : d = 0 ∨ d = 1 ∨ d = 2 ∨ d = 3 ∨ d = 4) with rfl | rfl | rfl | rfl | rfl
  all_goals
    have h3 := (full_range _ h).2
    simp only [fullB] at h2 h3
    rcases (by omega : set = 0 ∨ set = 1 ∨ set = 2 ∨ set = 3 ∨ set = 4 ∨ set = 5 ∨ set = 6 ∨ set = 7 ∨ set = 8 ∨ set = 9 ∨ set = 10 ∨ set = 11 ∨ set = 12 ∨ set = 13 ∨ set = 14 ∨ set = 15) with rfl | rfl | rfl | rfl | rfl | rfl | rfl | rfl | rfl | rfl | rfl | rfl | rfl | rfl | rfl | rfl
  all_goals first
    | (exfalso; omega)
    | (simp [dimsL] at hx; done)
    | (simp [dimsL] at hx; rcases hx with rfl | rfl | rfl | rfl <;> decide)
    | (simp [dimsL] at hx; rcases hx with rfl | rfl | rfl <;> decide)
    | (simp [dimsL] at hx; rcases hx with rfl | rfl <;> decide)
    | (simp [dimsL] at hx; subst hx; decide)
end Go.Proofs.Ytmolfcccfekcpaa
/- What each law of cells asks first: 'known'. -/
namespace Go.Proofs.Ytmolfcccfekcpaa
open Go.RowKit
theorem nil_ri (w : World) : RI w (.slice none 0 0) [] := ⟨none, 0, rfl, ⟨rfl, fun x h => (by cases h), fun h => (by simp at h)⟩, Nat.le_refl _, by simp [maxLen], fun _ => rfl⟩
theorem row_ri (W : World) (b : Nat) (xs : List Int) (T : TypeId) (hx : ∀ x ∈ xs, inK .i64 x) (h : W.heap[b]? = some (.cells (ints xs).toArray T (0, 0))) (hl : xs.length ≤ 1000000) : RI W (.slice (some ⟨b, 0, none⟩) xs.length xs.length) xs := by
  refine ⟨_, _, rfl, ⟨rfl, hx, fun hn => ⟨_, rfl, fun j x hj => ?_⟩⟩, Nat.le_refl _, by simp [maxLen]; omega, fun e => by cases e⟩
  rw [add0, cell_of_row W b j _ T (0, 0) h]
  simp [ints, hj]
/-- The chapter's cell, and two of it. -/
def kx : Cel := ⟨[5], 1, [3], [3], [3]⟩
theorem kx_of : (⟨ofKey [4, 5] 2, 1, [3], [3], [3]⟩ : Cel) = kx := by unfold kx; congr 1
theorem kx_two : joinAll [kx, kx] = ⟨[5], 2, [6], [3], [3]⟩ := by unfold kx joinAll; simp [join2, addL, minL, maxL, wrap64]
end Go.Proofs.Ytmolfcccfekcpaa
/- The reference's Less, Ints. -/
namespace Go.Proofs.Ytmolfcccfekcpaa
open Go.RowKit
set_option maxHeartbeats 1000000 in
theorem rIntsEq (A B : Option Addr) (n c d : Nat) (xs ys : List Int) (w : World) (hx : Nums .i64 w A n xs) (hy : Nums .i64 w B n ys) (hn : n ≤ 4611686018427387904) :
    Calls Try.prog 50 #[.slice A n c, .slice B n d] w fun e w' => e = .returned (.bool (decide (xs = ys))) ∧ ∃ q, w' = w.drewN q := by
  go_enter Try.func50, Try.ntmps50
  go_wp2
  go_loopw [5] (fun i wr => ∃ k : Nat, k ≤ n ∧ i = .int .i64 k ∧ xs.take k = ys.take k ∧ ∃ q, wr = w.drewN q) (fun i _ => n - (intOf i).toNat)
  case atStart => exact ⟨0, by omega, rfl, by simp, 0, rfl⟩
  case round =>
    obtain ⟨k, hk, rfl, ht, q, rfl⟩ := hrel
    have Ht := Lib.hid ht
    clear ht
    by_cases hlt : k < n
    · obtain ⟨ad, x, rfl, hxk, hxi, hcx⟩ := hx.at_ hlt
      obtain ⟨bd, y, rfl, hyk, hyi, hcy⟩ := hy.at_ hlt
      have Hx := Lib.hid hxk
      have Hy := Lib.hid hyk
      clear hxk hyk hxi hyi
      by_cases hxy : x = y
      · have Hxy := Lib.hid hxy
        have hb : (x != y) = false := by rw [hxy]; simp
        clear hxy
        go_wp2
        go_quiet (fail)
        go_wp2
        exact ⟨⟨k + 1, by omega, by go_num, by rw [take_snoc Hx.out, take_snoc Hy.out, Ht.out, Hxy.out], _, rfl⟩, by simp [intOf]; omega⟩
      · have hb : (x != y) = true := by rw [bne_iff_ne]; exact hxy
        have Hne : Hid (xs ≠ ys) := Lib.hid (fun e => hxy (by have h1 := Hx.out; have h2 := Hy.out; rw [e, h2] at h1; injection h1 with h1; exact h1.symm))
        clear hxy
        go_wp2
        go_quiet (fail)
        go_wp2
        go_ret
        exact ⟨by rw [decide_eq_false Hne.out]; rfl, _, World.drewN_drewN _ _ _⟩
    · go_wp2
      go_ret
      obtain rfl : k = n := by omega
      have := Ht.out
      rw [List.take_of_length_le (Nat.le_of_eq hx.len), List.take_of_length_le (Nat.le_of_eq hy.len)] at this
      exact ⟨by rw [decide_eq_true this]; rfl, _, rfl⟩
set_option maxHeartbeats 1000000 in
theorem rIntsNe (A B : Option Addr) (n m c d : Nat) (w : World) (h : n ≠ m) :
    Calls Try.prog 50 #[.slice A n c, .slice B m d] w fun e w' => e = .returned (.bool false) ∧ w = w' := by
  have hne : ((n : Int) != (m : Int)) = true := by rw [bne_iff_ne]; omega
  clear h
  go_enter Try.func50, Try.ntmps50
  go_wp2
  go_ret
  exact ⟨rfl, rfl⟩
/-- Ints: whether two rows of numbers are one. -/
theorem rInts (A B : Option Addr) (n m c d : Nat) (xs ys : List Int) (w : World) (hx : Nums .i64 w A n xs) (hy : Nums .i64 w B m ys) (hn : n ≤ 4611686018427387904) :
    Calls Try.prog 50 #[.slice A n c, .slice B m d] w fun e w' => e = .returned (.bool (decide (xs = ys))) ∧ ∃ q, w' = w.drewN q := by
  by_cases h : n = m
  · subst h
    exact rIntsEq A B n c d xs ys w hx hy hn
  · refine (rIntsNe A B n m c d w h).mono fun e w' ⟨he, hw⟩ => ⟨?_, 0, hw.symm⟩
    rw [he, decide_eq_false (fun e => h (by rw [← hx.len, ← hy.len, e]))]

set_option maxRecDepth 100000 in
set_option maxHeartbeats 2000000 in
theorem rLess (P Q : Option Addr) (m1 c1 m2 c2 : Nat) (xs ys : List Int) (w : World) (hx : Nums .i64 w P m1 xs) (hy : Nums .i64 w Q m2 ys) (h1 : m1 ≤ 4611686018427387904) (h2 : m2 ≤ 4611686018427387904) :
    Calls Try.prog 39 #[.slice P m1 c1, .slice Q m2 c2] w fun e w' => e = .returned (.int .i64 (cmpL xs ys)) ∧ ∃ q, w' = w.drewN q := by
  have l1 := hx.1
  have l2 := hy.1
  have Hx := Lib.hid hx
  have Hy := Lib.hid hy
  have L1 := Lib.hid l1
  have L2 := Lib.hid l2
  clear hx hy l1 l2
  obtain ⟨z, hz⟩ : ∃ z, z = cmpL xs ys := ⟨_, rfl⟩
  rw [← hz]
  have Hz := Lib.hid hz
  clear hz
  go_enter Try.func39, Try.ntmps39
  go_wp2
  go_loopw [5] (fun i wr => ∃ k : Nat, k ≤ m1 ∧ k ≤ m2 ∧ i = .int .i64 k ∧ cmpL xs ys = cmpL (xs.drop k) (ys.drop k) ∧ ∃ q, wr = w.drewN q) (fun i _ => m1 - (intOf i).toNat)
  case atStart => exact ⟨0, by omega, by omega, rfl, rfl, 0, rfl⟩
  case round =>
    obtain ⟨k, hk1, hk2, rfl, hr, q, rfl⟩ := hrel
    have Hr := Lib.hid hr
    clear hr
    by_cases a1 : k < m1
    · by_cases a2 : k < m2
      · obtain ⟨ad, x, rfl, hxk, hxi, hxc⟩ := Hx.out.at_ a1
        obtain ⟨bd, y, rfl, hyk, hyi, hyc⟩ := Hy.out.at_ a2
        have hd := cmpL_drop hxk hyk
        have i0 : (0 : Int) ≤ (k : Int) := by omega
        have i1 : (k : Int) < (m1 : Int) := by omega
        have i2 : (k : Int) < (m2 : Int) := by omega
        have d1 : decide (k < m1) = true := by simp; omega
        have d2 : decide (k < m2) = true := by simp; omega
        have Hd := Lib.hid hd
        clear hxk hyk hxi hyi hd
        by_cases b1 : x < y
        · have b1' : decide (x < y) = true := by simpa using b1
          have hfin : z = -1 := by rw [Hz.out, Hr.out, Hd.out]; simp [cmpI, b1]
          have Hfin := Lib.hid hfin
          clear b1 hfin
          go_wp2
          go_quiet (fail)
          go_wp2
          go_ret
          rw [Hfin.out]
          exact ⟨rfl, _, World.drewN_drewN _ _ _⟩
        · have b1' : decide (x < y) = false := by simpa using b1
          by_cases b2 : y < x
          · have b2' : decide (y < x) = true := by simpa using b2
            have hfin : z = 1 := by rw [Hz.out, Hr.out, Hd.out]; simp [cmpI, b1, b2]
            have Hfin := Lib.hid hfin
            clear b1 b2 hfin
            go_wp2
            go_quiet (fail)
            go_wp2
            go_quiet (fail)
            go_wp2
            go_ret
            rw [Hfin.out]
            exact ⟨rfl, _, by rw [World.drewN_drewN, World.drewN_drewN]⟩
          · have b2' : decide (y < x) = false := by simpa using b2
            have hfin : cmpL xs ys = cmpL (xs.drop (k + 1)) (ys.drop (k + 1)) := by rw [Hr.out, Hd.out]; simp [cmpI, b1, b2]
            have Hfin := Lib.hid hfin
            clear b1 b2 hfin
            go_wp2
            go_quiet (fail)
            go_wp2
            go_quiet (fail)
            go_wp2
            exact ⟨⟨k + 1, by omega, by omega, by go_num, Hfin.out, _, rfl⟩, by simp [intOf]; omega⟩
      · obtain rfl : k = m2 := by omega
        have d1 : decide (k < m1) = true := by simp; omega
        have d2 : decide (k < k) = false := by simp
        have d3 : decide (m1 < k) = false := by simp; omega
        have hfin : z = 1 := by
          rw [Hz.out, Hr.out, (show ys.drop k = [] from List.drop_eq_nil_of_le (by rw [L2.out]; exact Nat.le_refl _)), List.drop_eq_getElem_cons (show k < xs.length by rw [L1.out]; exact a1)]
          rfl
        have Hfin := Lib.hid hfin
        clear hfin
        go_wp2
        go_ret
        rw [Hfin.out]
        exact ⟨rfl, _, rfl⟩
    · obtain rfl : k = m1 := by omega
      have d1 : decide (k < k) = false := by simp
      by_cases a2 : k < m2
      · have d2 : decide (k < m2) = true := by simp; omega
        have hfin : z = -1 := by
          rw [Hz.out, Hr.out, (show xs.drop k = [] from List.drop_eq_nil_of_le (by rw [L1.out]; exact Nat.le_refl _)), List.drop_eq_getElem_cons (show k < ys.length by rw [L2.out]; exact a2)]
          rfl
        have Hfin := Lib.hid hfin
        clear hfin
        go_wp2
        go_ret
        rw [Hfin.out]
        exact ⟨rfl, _, rfl⟩
      · have d2 : decide (k < m2) = false := by simp; omega
        have d3 : decide (m2 < k) = false := by simp; omega
        have hfin : z = 0 := by
          rw [Hz.out, Hr.out, (show xs.drop k = [] from List.drop_eq_nil_of_le (by rw [L1.out]; exact Nat.le_refl _)), (show ys.drop k = [] from List.drop_eq_nil_of_le (by rw [L2.out]; omega))]
          rfl
        have Hfin := Lib.hid hfin
        clear hfin
        go_wp2
        go_ret
        rw [Hfin.out]
        exact ⟨rfl, _, rfl⟩
set_option maxHeartbeats 1000000 in
theorem less_n (P Q : Option Addr) (m1 c1 m2 c2 : Nat) (xs ys : List Int) (w : World) (hx : Nums .i64 w P m1 xs) (hy : Nums .i64 w Q m2 ys) (h1 : m1 ≤ 4611686018427387904) (h2 : m2 ≤ 4611686018427387904) :
    Calls Try.prog 46 #[.slice P m1 c1, .slice Q m2 c2] w fun e w' => e = .returned (.int .i64 (cmpL xs ys)) ∧ w = w' := by
  have hc := Lib.hid (compare_any P Q m1 c1 m2 c2 xs ys w hx hy h1 h2)
  clear hx hy
  go_enter Try.func46, Try.ntmps46
  go_wp2_with fail
  refine hc.out.mono ?_
  rintro e w' ⟨rfl, rfl⟩
  go_wp2
  go_ret
  exact ⟨rfl, rfl⟩
end Go.Proofs.Ytmolfcccfekcpaa
/- The reference's Equal of equal cells; package cell's Join. -/
namespace Go.Proofs.Ytmolfcccfekcpaa
open Go.RowKit
set_option maxRecDepth 100000 in
set_option maxHeartbeats 2000000 in
/-- Two cells that read the same are Equal. -/
theorem equal_yes (k s n m k' s' n' m' : Value) (x : Cel) (w : World) (hx : CR w k s n m x) (hy : CR w k' s' n' m' x) (h1 : x.key.length ≤ 1000000) (h2 : x.sum.length ≤ 1000000) (h3 : x.mn.length ≤ 1000000) (h4 : x.mx.length ≤ 1000000) :
    Calls Try.prog 37 #[.agg #[k, .int .i64 x.cnt, s, n, m], .agg #[k', .int .i64 x.cnt, s', n', m']] w fun e w' => e = .returned (.bool true) ∧ Below w.heap.size w w' := by
  obtain ⟨⟨Pk, ck, rfl, hk, _⟩, ⟨Ps, cs, rfl, hs, _⟩, ⟨Pn, cn, rfl, hn, _⟩, ⟨Pm, cm, rfl, hm, _⟩⟩ := hx
  obtain ⟨⟨Qk, dk, rfl, gk, _⟩, ⟨Qs, ds, rfl, gs, _⟩, ⟨Qn, dn, rfl, gn, _⟩, ⟨Qm, dm, rfl, gm, _⟩⟩ := hy
  have I : ∀ (P Q : Option Addr) (c d : Nat) (xs : List Int), Nums .i64 w P xs.length xs → Nums .i64 w Q xs.length xs → xs.length ≤ 1000000 → ∀ W : World, Keeps w W → Calls Try.prog 50 #[.slice P xs.length c, .slice Q xs.length d] W fun e w' => e = .returned (.bool true) ∧ ∃ q, w' = W.drewN q := fun P Q c d xs hp hq hl W hW => by
    have := rInts P Q xs.length xs.length c d xs xs W (hp.keep hW) (hq.keep hW) (by omega)
    rwa [decide_eq_true (rfl : xs = xs)] at this
  have I1 := Lib.hid (I _ _ ck dk _ hk gk h1)
  have I2 := Lib.hid (I _ _ cs ds _ hs gs h2)
  have I3 := Lib.hid (I _ _ cn dn _ hn gn h3)
  have I4 := Lib.hid (I _ _ cm dm _ hm gm h4)
  clear I hk hs hn hm gk gs gn gm
  have hb : Below w.heap.size w ((w.alloc (.cells #[.slice Pk x.key.length ck, .int .i64 x.cnt, .slice Ps x.sum.length cs, .slice Pn x.mn.length cn, .slice Pm x.mx.length cm] 44)).alloc (.cells #[.slice Qk x.key.length dk, .int .i64 x.cnt, .slice Qs x.sum.length ds, .slice Qn x.mn.length dn, .slice Qm x.mx.length dm] 44)) := ((Below.refl _ w).alloc (Nat.le_refl _) _).alloc (by simp) _
  have HB := Lib.hid hb
  clear hb
  generalize x.key.length = lk at *
  generalize x.sum.length = ls at *
  generalize x.mn.length = ln at *
  generalize x.mx.length = lm at *
  generalize x.cnt = cnt at *
  have c1 : (cnt == cnt) = true := by simp
  have o1 := (show Own 44 (w.alloc (.cells #[.slice Pk lk ck, .int .i64 cnt, .slice Ps ls cs, .slice Pn ln cn, .slice Pm lm cm] 44)) w.heap.size [.slice Pk lk ck, .int .i64 cnt, .slice Ps ls cs, .slice Pn ln cn, .slice Pm lm cm] from heap_alloc_new w _).alloc (.cells #[.slice Qk lk dk, .int .i64 cnt, .slice Qs ls ds, .slice Qn ln dn, .slice Qm lm dm] 44)
  have o2 : Own 44 ((w.alloc (.cells #[.slice Pk lk ck, .int .i64 cnt, .slice Ps ls cs, .slice Pn ln cn, .slice Pm lm cm] 44)).alloc (.cells #[.slice Qk lk dk, .int .i64 cnt, .slice Qs ls ds, .slice Qn ln dn, .slice Qm lm dm] 44)) (w.heap.size + 1) [.slice Qk lk dk, .int .i64 cnt, .slice Qs ls ds, .slice Qn ln dn, .slice Qm lm dm] := by
    have h := heap_alloc_new (w.alloc (.cells #[.slice Pk lk ck, .int .i64 cnt, .slice Ps ls cs, .slice Pn ln cn, .slice Pm lm cm] 44)) (.cells #[.slice Qk lk dk, .int .i64 cnt, .slice Qs ls ds, .slice Qn ln dn, .slice Qm lm dm] 44)
    rw [show (w.alloc (.cells #[.slice Pk lk ck, .int .i64 cnt, .slice Ps ls cs, .slice Pn ln cn, .slice Pm lm cm] 44)).heap.size = w.heap.size + 1 from by simp] at h
    exact h
  have O1 := Lib.hid o1
  have O2 := Lib.hid o2
  clear o1 o2
  go_enter Try.func37, Try.ntmps37
  go_wp2_with fail
  generalize (w.alloc (.cells #[.slice Pk lk ck, .int .i64 cnt, .slice Ps ls cs, .slice Pn ln cn, .slice Pm lm cm] 44)).alloc (.cells #[.slice Qk lk dk, .int .i64 cnt, .slice Qs ls ds, .slice Qn ln dn, .slice Qm lm dm] 44) = W at HB O1 O2 ⊢
  have kW := Lib.hid (Keeps.of_below HB.out)
  have p2 := O1.out.cell (i := 2) rfl
  have p3 := O1.out.cell (i := 3) rfl
  have p4 := O1.out.cell (i := 4) rfl
  have q2 := O2.out.cell (i := 2) rfl
  have q3 := O2.out.cell (i := 3) rfl
  have q4 := O2.out.cell (i := 4) rfl
  refine (I1.out W kW.out).mono ?_
  rintro e w1 ⟨rfl, r1, rfl⟩
  go_wp2_with fail
  refine (I2.out (W.drewN r1) (kW.out.drewN r1)).mono ?_
  rintro e w1 ⟨rfl, r2, rfl⟩
  go_wp2_with fail
  refine (I3.out (W.drewN (r1 + r2)) (kW.out.drewN _)).mono ?_
  rintro e w1 ⟨rfl, r3, rfl⟩
  go_wp2_with fail
  refine (I4.out (W.drewN (r1 + r2 + r3)) (kW.out.drewN _)).mono ?_
  rintro e w1 ⟨rfl, r4, rfl⟩
  go_wp2
  go_ret
  exact ⟨rfl, below_drewN HB.out _⟩
end Go.Proofs.Ytmolfcccfekcpaa
/- The laws' own within. -/
namespace Go.Proofs.Ytmolfcccfekcpaa
open Go.RowKit
set_option maxHeartbeats 400000 in
theorem lwithin2 (a n : Int) (w : World) (ha : inK .i64 a) (hn : 1 ≤ n) (hn2 : n ≤ 4611686018427387904) :
    Calls Try.prog 32 #[.int .i64 a, .int .i64 n] w fun e w' => e = .returned (.int .i64 (a % n)) ∧ w = w' := by
  obtain ⟨ha1, ha2⟩ := ha
  by_cases h : 0 ≤ a
  · have h1 := Int.emod_nonneg a (show n ≠ 0 by omega)
    go_enter Try.func32, Try.ntmps32
    go_wp2
    go_ret
    exact ⟨rfl, rfl⟩
  · have h1 := Int.emod_nonneg a (show n ≠ 0 by omega)
    have h2 := Int.emod_lt_of_pos a (show 0 < n by omega)
    have h3 := Int.tmod_eq_emod (a := a) (b := n)
    have h4 : a.tmod n = a % n ∨ a.tmod n = a % n - n := by
      rw [h3]
      split
      · simp
      · right; omega
    by_cases h5 : a.tmod n < 0
    · have e : a.tmod n + n = a % n := by omega
      have h6 : -n ≤ a.tmod n := by omega
      have E := Lib.hid e
      clear e h3 h4 h1 h2
      go_enter Try.func32, Try.ntmps32
      go_wp2
      go_ret
      exact ⟨ret_int E.out, rfl⟩
    · have e : a.tmod n = a % n := by omega
      have E := Lib.hid e
      clear e h3 h4 h1 h2
      go_enter Try.func32, Try.ntmps32
      go_wp2
      go_ret
      exact ⟨ret_int E.out, rfl⟩

end Go.Proofs.Ytmolfcccfekcpaa
