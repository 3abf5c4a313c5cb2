/- A store and the reference's one, side by side: what the laws over both lean on. -/
import Derived.Test.YtgkgkekgmcldmaaLw4
import Derived.Test.YtgkgkekgmcldmaaRo10
namespace Go.Proofs.Ytgkgkekgmcldmaa
open Go.RowKit
/-- A store at p of σ, the reference's at q of τ, made by the call itself from a on; neither's blocks to write are any of the other's. -/
structure Duo (a w : World) (p q : Nat) (σ τ : St) (c : Nat) : Prop where
  ex : ∃ M A N B, StoreAt w p σ c M A ∧ RefAt w q τ c N B ∧ (∀ k, M k → a.heap.size ≤ k ∧ ¬ N k ∧ ¬ B k) ∧ (∀ k, N k → a.heap.size ≤ k ∧ ¬ M k ∧ ¬ A k)
  bel : Below a.heap.size a w
section
variable {a w w' : World} {p q c c' : Nat} {σ σ' τ τ' : St}
theorem Duo.ok (h : Duo a w p q σ τ c) : σ.ok c := by obtain ⟨M, A, N, B, h1, _⟩ := h.ex; exact h1.ok
theorem Duo.okR (h : Duo a w p q σ τ c) : τ.ok c := by obtain ⟨M, A, N, B, _, h1, _⟩ := h.ex; exact h1.ok
theorem Duo.below (h : Duo a w p q σ τ c) (hb : Below w.heap.size w w') : Duo a w' p q σ τ c := by
  obtain ⟨M, A, N, B, h1, h2, h3, h4⟩ := h.ex
  exact ⟨⟨M, A, N, B, h1.below hb, h2.below hb, h3, h4⟩, h.bel.trans (hb.mono h.bel.size)⟩
theorem Duo.drewN (h : Duo a w p q σ τ c) (n : Nat) : Duo a (w.drewN n) p q σ τ c := h.below ⟨rfl, rfl, rfl, Nat.le_refl _, fun _ _ => rfl⟩
theorem Duo.alloc (h : Duo a w p q σ τ c) (o : Obj) : Duo a (w.alloc o) p q σ τ c := h.below ((Below.refl _ _).alloc (Nat.le_refl _) o)
theorem Duo.more (h : Duo a w p q σ τ c) (hc : c ≤ c') : Duo a w p q σ τ c' := by
  obtain ⟨M, A, N, B, h1, h2, h3, h4⟩ := h.ex
  exact ⟨⟨M, A, N, B, h1.mono (fun _ h => h) (fun _ h => h) h1.ml h1.al hc, h2.mono (fun _ h => h) (fun _ h => h) h2.ml h2.al hc, h3, h4⟩, h.bel⟩
/-- It stays whatever is done to blocks that came behind it. -/
theorem Duo.later {b : World} (h : Duo a b p q σ τ c) (hb : Below b.heap.size b w) : Duo a w p q σ τ c := h.below hb
theorem Duo.sto {f : Nat} {args : Array Value} {v : Value} (h : Duo a w p q σ τ c) (hc : c ≤ c') (hcall : ∀ M A, StoreAt w p σ c M A → Calls Try.prog f args w (OpPost p σ' c' M A v w)) :
    Calls Try.prog f args w fun e w' => e = .returned v ∧ Duo a w' p q σ' τ c' := by
  obtain ⟨M, A, N, B, h1, h2, h3, h4⟩ := h.ex
  refine (hcall M A h1).mono ?_
  rintro e w' ⟨he, h5, h6⟩
  have h7 := h2.tch h6 fun k hk => (h3 k hk).2
  have hs := h.bel.size
  refine ⟨he, ⟨⟨_, _, N, B, h5, h7.mono (fun _ h => h) (fun _ h => h) h7.ml h7.al hc, fun k hk => ?_, fun k hk => ⟨(h4 k hk).1, ?_, ?_⟩⟩, h.bel.trans (h6.below (fun k hk => (h3 k hk).1) hs)⟩⟩
  · rcases hk with hk | hk
    · exact h3 k hk
    · exact ⟨by have := hk.1; omega, fun hn => by have := h2.ml k hn; have := hk.1; omega, fun hn => by have := h2.al k hn; have := hk.1; omega⟩
  · rintro (hm | hm)
    · exact (h4 k hk).2.1 hm
    · have := h2.ml k hk; have := hm.1; omega
  · rintro (hm | hm)
    · exact (h4 k hk).2.2 hm
    · have := h2.ml k hk; have := hm.1; omega
theorem Duo.ref {f : Nat} {args : Array Value} {v : Value} (h : Duo a w p q σ τ c) (hc : c ≤ c') (hcall : ∀ M A, RefAt w q τ c M A → Calls Try.prog f args w (RefPost q τ' c' M A v w)) :
    Calls Try.prog f args w fun e w' => e = .returned v ∧ Duo a w' p q σ τ' c' := by
  obtain ⟨M, A, N, B, h1, h2, h3, h4⟩ := h.ex
  refine (hcall N B h2).mono ?_
  rintro e w' ⟨he, h5, h6⟩
  have h7 := h1.tch h6 fun k hk => (h4 k hk).2
  have hs := h.bel.size
  refine ⟨he, ⟨⟨M, A, _, _, h7.mono (fun _ h => h) (fun _ h => h) h7.ml h7.al hc, h5, fun k hk => ⟨(h3 k hk).1, ?_, ?_⟩, fun k hk => ?_⟩, h.bel.trans (h6.below (fun k hk => (h4 k hk).1) hs)⟩⟩
  · rintro (hm | hm)
    · exact (h3 k hk).2.1 hm
    · have := h1.ml k hk; have := hm.1; omega
  · rintro (hm | hm)
    · exact (h3 k hk).2.2 hm
    · have := h1.ml k hk; have := hm.1; omega
  · rcases hk with hk | hk
    · exact h4 k hk
    · exact ⟨by have := hk.1; omega, fun hn => by have := h1.ml k hn; have := hk.1; omega, fun hn => by have := h1.al k hn; have := hk.1; omega⟩
theorem Duo.new (w0 : World) (k : Int) (hk : 0 ≤ k ∧ k ≤ 1000000) {w1 w2 : World} (hb : Below a.heap.size a w0)
    (e1 : w1 = w0.alloc (.cells #[.int .i64 k, .map none, .int .i64 0, .slice none 0 0] 59)) (e2 : w2 = w1.alloc (.cells #[.int .i64 k, .slice none 0 0, .slice none 0 0] 62)) :
    Duo a w2 w0.heap.size w1.heap.size (St.new k) (St.new k) 0 := by
  have h1 := StoreAt.new w0 k hk
  rw [← e1] at h1
  have h2 := RefAt.new w1 k hk
  rw [← e2] at h2
  have hb2 : Below w1.heap.size w1 w2 := e2 ▸ (Below.refl _ _).alloc (Nat.le_refl _) _
  have hb1 : Below w0.heap.size w0 w1 := e1 ▸ (Below.refl _ _).alloc (Nat.le_refl _) _
  have hs := hb.size
  have hs1 := hb1.size
  have hl := h1.ml _ rfl
  refine ⟨⟨_, _, _, _, h1.below hb2, h2, fun k hk => ⟨by subst hk; exact hs, fun hn => by subst hk; omega, fun h => h⟩, fun k hk => ⟨by subst hk; omega, fun hn => by omega, fun h => h⟩⟩, (hb.trans (hb1.mono hs)).trans (hb2.mono (by omega))⟩
end
end Go.Proofs.Ytgkgkekgmcldmaa
