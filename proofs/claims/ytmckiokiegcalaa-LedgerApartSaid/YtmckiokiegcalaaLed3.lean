/- Ledgers as the laws use them: all that is known of one in one word, contracts that say yes, that say no. -/
import Derived.Test.YtmckiokiegcalaaLed2
namespace Go.Proofs.Ytmckiokiegcalaa
open Go.RowKit
theorem LS.is {a b c : Int} {s : LS} (h1 : a = s.now) (h2 : b = s.most) (h3 : c = s.all) : (⟨a, b, c⟩ : LS) = s := by subst h1; subst h2; subst h3; rfl
/-- A ledger that the call itself made, from a on. -/
structure L (a w : World) (g : Nat) (s : LS) : Prop where
  at_ : LedAt w g s
  ok : s.ok
  low : a.heap.size ≤ g
  bel : Below a.heap.size a w
structure R (a w : World) (g : Nat) (s : LS) : Prop where
  at_ : RefAt w g s
  ok : s.ok
  low : a.heap.size ≤ g
  bel : Below a.heap.size a w
theorem L.only {a w w' : World} {g k : Nat} {s : LS} (h : L a w g s) (ho : Only k w w') (hg : g ≠ k) (hk : a.heap.size ≤ k) : L a w' g s :=
  ⟨h.at_.only ho hg, h.ok, h.low, below_only h.bel ho hk h.bel.size⟩
theorem R.only {a w w' : World} {g k : Nat} {s : LS} (h : R a w g s) (ho : Only k w w') (hg : g ≠ k) (hk : a.heap.size ≤ k) : R a w' g s :=
  ⟨h.at_.only ho hg, h.ok, h.low, below_only h.bel ho hk h.bel.size⟩
theorem L.alloc {a w : World} {g : Nat} {s : LS} (h : L a w g s) (o : Obj) : L a (w.alloc o) g s := ⟨Arr.alloc h.at_ o, h.ok, h.low, h.bel.alloc h.bel.size o⟩
theorem R.alloc {a w : World} {g : Nat} {s : LS} (h : R a w g s) (o : Obj) : R a (w.alloc o) g s := ⟨Arr.alloc h.at_ o, h.ok, h.low, h.bel.alloc h.bel.size o⟩
theorem new_l {a w : World} (hb : Below a.heap.size a w) (k : Int) (h : 0 ≤ k ∧ k ≤ 9223372036854775807) :
    Calls Try.prog 13 #[.int .i64 k] w fun e w' => e = .returned (.pointer (some ⟨w.heap.size, 0, none⟩)) ∧ L a w' w.heap.size (LS.new k) ∧ Below w.heap.size w w' :=
  (new_any k w).mono fun _ _ ⟨he, hw⟩ => ⟨he, hw ▸ ⟨⟨LedAt.new w k, LS.ok_new h.1 h.2, hb.size, hb.alloc hb.size _⟩, (Below.refl _ _).alloc (Nat.le_refl _) _⟩⟩
theorem new_r {a w : World} (hb : Below a.heap.size a w) (k : Int) (h : 0 ≤ k ∧ k ≤ 9223372036854775807) :
    Calls Try.prog 14 #[.int .i64 k] w fun e w' => e = .returned (.pointer (some ⟨w.heap.size, 0, none⟩)) ∧ R a w' w.heap.size (LS.new k) ∧ Below w.heap.size w w' :=
  (rnew_any k w).mono fun _ _ ⟨he, hw⟩ => ⟨he, hw ▸ ⟨⟨RefAt.new w k, LS.ok_new h.1 h.2, hb.size, hb.alloc hb.size _⟩, (Below.refl _ _).alloc (Nat.le_refl _) _⟩⟩
theorem L.below {a w w' : World} {g : Nat} {s : LS} (h : L a w g s) (hb : Below w.heap.size w w') : L a w' g s :=
  ⟨h.at_.below hb h.at_.lt, h.ok, h.low, h.bel.trans (hb.mono h.bel.size)⟩
theorem R.below {a w w' : World} {g : Nat} {s : LS} (h : R a w g s) (hb : Below w.heap.size w w') : R a w' g s :=
  ⟨h.at_.below hb h.at_.lt, h.ok, h.low, h.bel.trans (hb.mono h.bel.size)⟩
section
variable {a w : World} {g : Nat} {s : LS}
theorem take_l (h : L a w g s) (n : Int) (hn : inK .i64 n) :
    Calls Try.prog 15 #[.pointer (some ⟨g, 0, none⟩), .int .i64 n] w fun e w' => e = .returned (.bool (s.takes n)) ∧ L a w' g (s.take n) ∧ Only g w w' :=
  (take_any g s n w h.at_ h.ok hn).mono fun _ _ ⟨he, h1, h2⟩ => ⟨he, ⟨h1, LS.ok_take h.ok n, h.low, below_only h.bel h2 h.low h.bel.size⟩, h2⟩
theorem take_y (h : L a w g s) (n : Int) (s' : LS) (hc : 0 ≤ n ∧ n ≤ s.all - s.now) (e : s' = ⟨s.now + n, max s.most (s.now + n), s.all⟩) :
    Calls Try.prog 15 #[.pointer (some ⟨g, 0, none⟩), .int .i64 n] w fun e w' => e = .returned (.bool true) ∧ L a w' g s' ∧ Only g w w' := by
  have := take_l h n ⟨by omega, by have := h.ok.1; have := h.ok.2.2.2; omega⟩
  rw [(LS.take_yes hc).1, (LS.take_yes hc).2, ← e] at this
  exact this
theorem take_n (h : L a w g s) (n : Int) (hn : inK .i64 n) (hc : ¬ (0 ≤ n ∧ n ≤ s.all - s.now)) :
    Calls Try.prog 15 #[.pointer (some ⟨g, 0, none⟩), .int .i64 n] w fun e w' => e = .returned (.bool false) ∧ L a w' g s ∧ Only g w w' := by
  have := take_l h n hn
  rw [(LS.take_no hc).1, (LS.take_no hc).2] at this
  exact this
theorem give_l (h : L a w g s) (n : Int) (hn : inK .i64 n) :
    Calls Try.prog 17 #[.pointer (some ⟨g, 0, none⟩), .int .i64 n] w fun e w' => e = .returned (.bool (s.gives n)) ∧ L a w' g (s.give n) ∧ Only g w w' :=
  (give_any g s n w h.at_ h.ok hn).mono fun _ _ ⟨he, h1, h2⟩ => ⟨he, ⟨h1, LS.ok_give h.ok n, h.low, below_only h.bel h2 h.low h.bel.size⟩, h2⟩
theorem give_y (h : L a w g s) (n : Int) (s' : LS) (hc : 0 ≤ n ∧ n ≤ s.now) (e : s' = ⟨s.now - n, s.most, s.all⟩) :
    Calls Try.prog 17 #[.pointer (some ⟨g, 0, none⟩), .int .i64 n] w fun e w' => e = .returned (.bool true) ∧ L a w' g s' ∧ Only g w w' := by
  have := give_l h n ⟨by omega, by have := h.ok.2.1; have := h.ok.2.2; omega⟩
  rw [(LS.give_yes hc).1, (LS.give_yes hc).2, ← e] at this
  exact this
theorem give_n (h : L a w g s) (n : Int) (hn : inK .i64 n) (hc : ¬ (0 ≤ n ∧ n ≤ s.now)) :
    Calls Try.prog 17 #[.pointer (some ⟨g, 0, none⟩), .int .i64 n] w fun e w' => e = .returned (.bool false) ∧ L a w' g s ∧ Only g w w' := by
  have := give_l h n hn
  rw [(LS.give_no hc).1, (LS.give_no hc).2] at this
  exact this
theorem used_l (h : L a w g s) (n : Int) (e : s.now = n) :
    Calls Try.prog 19 #[.pointer (some ⟨g, 0, none⟩)] w fun e w' => e = .returned (.int .i64 n) ∧ w = w' := e ▸ used_any g s w h.at_
theorem high_l (h : L a w g s) (n : Int) (e : s.most = n) :
    Calls Try.prog 21 #[.pointer (some ⟨g, 0, none⟩)] w fun e w' => e = .returned (.int .i64 n) ∧ w = w' := e ▸ high_any g s w h.at_
theorem take_r (h : R a w g s) (n : Int) (hn : inK .i64 n) :
    Calls Try.prog 16 #[.pointer (some ⟨g, 0, none⟩), .int .i64 n] w fun e w' => e = .returned (.bool (s.takes n)) ∧ R a w' g (s.take n) ∧ Only g w w' :=
  (rtake_any g s n w h.at_ h.ok hn).mono fun _ _ ⟨he, h1, h2⟩ => ⟨he, ⟨h1, LS.ok_take h.ok n, h.low, below_only h.bel h2 h.low h.bel.size⟩, h2⟩
theorem give_r (h : R a w g s) (n : Int) (hn : inK .i64 n) :
    Calls Try.prog 18 #[.pointer (some ⟨g, 0, none⟩), .int .i64 n] w fun e w' => e = .returned (.bool (s.gives n)) ∧ R a w' g (s.give n) ∧ Only g w w' :=
  (rgive_any g s n w h.at_ h.ok hn).mono fun _ _ ⟨he, h1, h2⟩ => ⟨he, ⟨h1, LS.ok_give h.ok n, h.low, below_only h.bel h2 h.low h.bel.size⟩, h2⟩
theorem used_r (h : R a w g s) (n : Int) (e : s.now = n) :
    Calls Try.prog 20 #[.pointer (some ⟨g, 0, none⟩)] w fun e w' => e = .returned (.int .i64 n) ∧ w = w' := e ▸ rused_any g s w h.at_
theorem high_r (h : R a w g s) (n : Int) (e : s.most = n) :
    Calls Try.prog 22 #[.pointer (some ⟨g, 0, none⟩)] w fun e w' => e = .returned (.int .i64 n) ∧ w = w' := e ▸ rhigh_any g s w h.at_
end
end Go.Proofs.Ytmckiokiegcalaa
