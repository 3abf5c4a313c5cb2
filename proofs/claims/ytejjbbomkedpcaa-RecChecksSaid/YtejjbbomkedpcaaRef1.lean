import Derived.Test.YtejjbbomkedpcaaProg
import Derived.Test.YtejjbbomkedpcaaBase2
namespace Go.Proofs.Ytejjbbomkedpcaa
open Go.RowKit
set_option maxHeartbeats 1000000 in
theorem rIntsEq (A B : Option Addr) (n c d : Nat) (xs ys : List Int) (w : World) (hx : Nums .i64 w A n xs) (hy : Nums .i64 w B n ys) (hn : n ≤ 4611686018427387904) :
    Calls Try.prog 25 #[.slice A n c, .slice B n d] w fun e w' => e = .returned (.bool (decide (xs = ys))) ∧ ∃ q, w' = w.drewN q := by
  go_enter Try.func25, Try.ntmps25
  go_wp2
  go_loopw [5] (fun i wr => ∃ k : Nat, k ≤ n ∧ i = .int .i64 k ∧ xs.take k = ys.take k ∧ ∃ q, wr = w.drewN q) (fun i _ => n - (intOf i).toNat)
  case atStart => exact ⟨0, by omega, rfl, by simp, 0, rfl⟩
  case round =>
    obtain ⟨k, hk, rfl, ht, q, rfl⟩ := hrel
    have Ht := Lib.hid ht
    clear ht
    by_cases hlt : k < n
    · obtain ⟨ad, x, rfl, hxk, hxi, hcx⟩ := hx.at_ hlt
      obtain ⟨bd, y, rfl, hyk, hyi, hcy⟩ := hy.at_ hlt
      have Hx := Lib.hid hxk
      have Hy := Lib.hid hyk
      clear hxk hyk hxi hyi
      by_cases hxy : x = y
      · have Hxy := Lib.hid hxy
        have hb : (x != y) = false := by rw [hxy]; simp
        clear hxy
        go_wp2
        go_quiet (fail)
        go_wp2
        exact ⟨⟨k + 1, by omega, by go_num, by rw [take_snoc Hx.out, take_snoc Hy.out, Ht.out, Hxy.out], _, rfl⟩, by simp [intOf]; omega⟩
      · have hb : (x != y) = true := by rw [bne_iff_ne]; exact hxy
        have Hne : Hid (xs ≠ ys) := Lib.hid (fun e => hxy (by have h1 := Hx.out; have h2 := Hy.out; rw [e, h2] at h1; injection h1 with h1; exact h1.symm))
        clear hxy
        go_wp2
        go_quiet (fail)
        go_wp2
        go_ret
        exact ⟨by rw [decide_eq_false Hne.out]; rfl, _, World.drewN_drewN _ _ _⟩
    · go_wp2
      go_ret
      obtain rfl : k = n := by omega
      have := Ht.out
      rw [List.take_of_length_le (Nat.le_of_eq hx.len), List.take_of_length_le (Nat.le_of_eq hy.len)] at this
      exact ⟨by rw [decide_eq_true this]; rfl, _, rfl⟩
set_option maxHeartbeats 1000000 in
theorem rIntsNe (A B : Option Addr) (n m c d : Nat) (w : World) (h : n ≠ m) :
    Calls Try.prog 25 #[.slice A n c, .slice B m d] w fun e w' => e = .returned (.bool false) ∧ w = w' := by
  have hne : ((n : Int) != (m : Int)) = true := by rw [bne_iff_ne]; omega
  clear h
  go_enter Try.func25, Try.ntmps25
  go_wp2
  go_ret
  exact ⟨rfl, rfl⟩
/-- Ints: whether two rows of numbers are one. -/
theorem rInts (A B : Option Addr) (n m c d : Nat) (xs ys : List Int) (w : World) (hx : Nums .i64 w A n xs) (hy : Nums .i64 w B m ys) (hn : n ≤ 4611686018427387904) :
    Calls Try.prog 25 #[.slice A n c, .slice B m d] w fun e w' => e = .returned (.bool (decide (xs = ys))) ∧ ∃ q, w' = w.drewN q := by
  by_cases h : n = m
  · subst h
    exact rIntsEq A B n c d xs ys w hx hy hn
  · refine (rIntsNe A B n m c d w h).mono fun e w' ⟨he, hw⟩ => ⟨?_, 0, hw.symm⟩
    rw [he, decide_eq_false (fun e => h (by rw [← hx.len, ← hy.len, e]))]

theorem fact_eq {a b : Fact} : a = b ↔ a.key = b.key ∧ a.m = b.m := by
  cases a; cases b; simp
instance : DecidableEq Fact := fun a b => if h : a.key = b.key ∧ a.m = b.m then isTrue (fact_eq.2 h) else isFalse fun e => h (fact_eq.1 e)
def sameB (cs : List Int) (me : Int) (l : List Fact) (cs' : List Int) (me' : Int) (l' : List Fact) : Bool := decide (cs = cs') && (decide (me = me') && decide (l = l'))

set_option maxHeartbeats 2000000 in
/-- Same: whether two schemas, and rows of them, are one. -/
theorem Same_any (A B A' B' : Option Addr) (n c m d n' c' m' d' : Nat) (cs cs' : List Int) (me me' : Int) (l l' : List Fact) (w : World) (hA : Nums .i64 w A n cs) (hB : Facts w B m l) (hA' : Nums .i64 w A' n' cs') (hB' : Facts w B' m' l')
    (hn : n ≤ 4611686018427387904) (hm : m ≤ 4611686018427387904) (hr : ∀ r ∈ l, r.key.length ≤ 4611686018427387904 ∧ r.m.length ≤ 4611686018427387904) :
    Calls Try.prog 14 #[.agg #[.slice A n c, .int .i64 me], .slice B m d, .agg #[.slice A' n' c', .int .i64 me'], .slice B' m' d'] w fun e w' => e = .returned (.bool (sameB cs me l cs' me' l')) ∧ Below w.heap.size w w' := by
  by_cases h1 : cs = cs' ∧ me = me' ∧ m = m'
  · obtain ⟨h1, h2, h3⟩ := h1
    subst h2 h3
    have Hcs := Lib.hid h1
    clear h1
    have hb1 : (me != me) = false := by simp
    have hb2 : ((m : Int) != (m : Int)) = false := by simp
    go_enter Try.func14, Try.ntmps14
    go_wp2_with fail
    refine (rInts A A' n n' c c' cs cs' _ (hA.keep (((Keeps.refl _).alloc _).alloc _)) (hA'.keep (((Keeps.refl _).alloc _).alloc _)) hn).mono ?_
    rintro e w1 ⟨rfl, q, rfl⟩
    rw [decide_eq_true Hcs.out]
    go_wp2
    go_loopw [9] (fun i wr => ∃ k : Nat, k ≤ m ∧ i = .int .i64 k ∧ l.take k = l'.take k ∧ Below w.heap.size w wr) (fun i _ => m - (intOf i).toNat)
    case atStart => exact ⟨0, by omega, rfl, by simp, below_drewN (((Below.refl _ _).alloc (Nat.le_refl _) _).alloc (by simp) _) _⟩
    case round =>
      obtain ⟨k, hk, rfl, ht, hb⟩ := hrel
      have Ht := Lib.hid ht
      have Hb := Lib.hid hb
      clear ht hb
      by_cases hlt : k < m
      · obtain ⟨ad, r, rfl, hrk, hrow⟩ := (hB.keep (Keeps.of_below Hb.out)).at_ hlt
        obtain ⟨bd, r', rfl, hrk', hrow'⟩ := (hB'.keep (Keeps.of_below Hb.out)).at_ hlt
        obtain ⟨A1, c1, B1, d1, x1, x2, x3, x4⟩ := hrow
        obtain ⟨A2, c2, B2, d2, y1, y2, y3, y4⟩ := hrow'
        have hmr := hr r (List.mem_of_getElem? hrk)
        have Hr := Lib.hid hrk
        have Hr' := Lib.hid hrk'
        clear hrk hrk'
        by_cases hk1 : r.key = r'.key
        · have Hk1 := Lib.hid hk1
          by_cases hk2 : r.m = r'.m
          · have Hk2 := Lib.hid hk2
            clear hk1 hk2
            have g1 := fun n => Calls.quiet_of (rInts A1 A2 r.key.length r'.key.length c1 c2 r.key r'.key (wr.drewN n) (x3.drewN n) (y3.drewN n) hmr.1)
            have g2 := fun n => Calls.quiet_of (rInts B1 B2 r.m.length r'.m.length d1 d2 r.m r'.m (wr.drewN n) (x4.drewN n) (y4.drewN n) hmr.2)
            rw [decide_eq_true Hk1.out] at g1
            rw [decide_eq_true Hk2.out] at g2
            have G1 := Lib.hid g1
            have G2 := Lib.hid g2
            clear g1 g2
            go_wp2
            go_quiet (first | with_reducible exact G1.out _ | with_reducible exact G2.out _)
            go_wp2
            exact ⟨⟨k + 1, by omega, by go_num, by rw [take_snoc Hr.out, take_snoc Hr'.out, Ht.out, fact_eq.2 ⟨Hk1.out, Hk2.out⟩], below_drewN Hb.out _⟩, by simp [intOf]; omega⟩
          · have Hne : Hid (l ≠ l') := Lib.hid (fun e => hk2 (by have h1 := Hr.out; have h2 := Hr'.out; rw [e, h2] at h1; injection h1 with h1; rw [h1]))
            have g1 := fun n => Calls.quiet_of (rInts A1 A2 r.key.length r'.key.length c1 c2 r.key r'.key (wr.drewN n) (x3.drewN n) (y3.drewN n) hmr.1)
            have g2 := fun n => Calls.quiet_of (rInts B1 B2 r.m.length r'.m.length d1 d2 r.m r'.m (wr.drewN n) (x4.drewN n) (y4.drewN n) hmr.2)
            rw [decide_eq_true Hk1.out] at g1
            rw [decide_eq_false hk2] at g2
            have G1 := Lib.hid g1
            have G2 := Lib.hid g2
            clear g1 g2 hk1 hk2
            go_wp2
            go_quiet (first | with_reducible exact G1.out _ | with_reducible exact G2.out _)
            go_wp2
            go_ret
            exact ⟨by rw [sameB, decide_eq_false Hne.out, Bool.and_false, Bool.and_false]; rfl, below_drewN Hb.out _⟩
        · have Hne : Hid (l ≠ l') := Lib.hid (fun e => hk1 (by have h1 := Hr.out; have h2 := Hr'.out; rw [e, h2] at h1; injection h1 with h1; rw [h1]))
          have g1 := fun n => Calls.quiet_of (rInts A1 A2 r.key.length r'.key.length c1 c2 r.key r'.key (wr.drewN n) (x3.drewN n) (y3.drewN n) hmr.1)
          rw [decide_eq_false hk1] at g1
          have G1 := Lib.hid g1
          clear g1 hk1
          go_wp2
          go_quiet (with_reducible exact G1.out _)
          go_wp2
          go_ret
          exact ⟨by rw [sameB, decide_eq_false Hne.out, Bool.and_false, Bool.and_false]; rfl, below_drewN Hb.out _⟩
      · go_wp2
        go_ret
        obtain rfl : k = m := by omega
        have := Ht.out
        rw [List.take_of_length_le (Nat.le_of_eq hB.1), List.take_of_length_le (Nat.le_of_eq hB'.1)] at this
        exact ⟨by rw [sameB, decide_eq_true Hcs.out, decide_eq_true rfl, decide_eq_true this]; rfl, Hb.out⟩
  · have hf : Hid (sameB cs me l cs' me' l' = false) := Lib.hid (by
      rw [sameB]
      by_cases e1 : cs = cs'
      · by_cases e2 : me = me'
        · rw [decide_eq_false (fun e : l = l' => h1 ⟨e1, e2, by rw [← hB.1, ← hB'.1, e]⟩), Bool.and_false, Bool.and_false]
        · rw [decide_eq_false e2, Bool.false_and, Bool.and_false]
      · rw [decide_eq_false e1, Bool.false_and])
    have hcall := fun W (hW : Keeps w W) => rInts A A' n n' c c' cs cs' W (hA.keep hW) (hA'.keep hW) hn
    go_enter Try.func14, Try.ntmps14
    by_cases e1 : cs = cs'
    · rw [decide_eq_true e1] at hcall
      have Hcall := Lib.hid hcall
      have h2 : (me != me') = true ∨ ((me != me') = false ∧ ((m : Int) != (m' : Int)) = true) := by
        by_cases e2 : me = me'
        · exact .inr ⟨by rw [e2]; simp, by rw [bne_iff_ne]; intro e3; exact h1 ⟨e1, e2, by omega⟩⟩
        · exact .inl (by rw [bne_iff_ne]; exact e2)
      clear hcall e1 h1
      rcases h2 with hb | ⟨hb, hb'⟩
      all_goals
        go_wp2_with fail
        refine (Hcall.out _ (((Keeps.refl _).alloc _).alloc _)).mono ?_
        rintro e w1 ⟨rfl, q, rfl⟩
        go_wp2
        go_ret
        exact ⟨by rw [hf.out]; rfl, below_drewN (((Below.refl _ _).alloc (Nat.le_refl _) _).alloc (by simp) _) _⟩
    · rw [decide_eq_false e1] at hcall
      have Hcall := Lib.hid hcall
      clear hcall e1 h1
      go_wp2_with fail
      refine (Hcall.out _ (((Keeps.refl _).alloc _).alloc _)).mono ?_
      rintro e w1 ⟨rfl, q, rfl⟩
      go_wp2
      go_ret
      exact ⟨by rw [hf.out]; rfl, below_drewN (((Below.refl _ _).alloc (Nat.le_refl _) _).alloc (by simp) _) _⟩
end Go.Proofs.Ytejjbbomkedpcaa
