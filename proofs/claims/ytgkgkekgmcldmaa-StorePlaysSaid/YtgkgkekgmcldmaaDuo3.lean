/- A store and the reference's: crashes. -/
import Derived.Test.YtgkgkekgmcldmaaStep
namespace Go.Proofs.Ytgkgkekgmcldmaa
open Go.RowKit
theorem putF_last : ∀ {acc : Fs} {n : Nm} (f : SF), (∀ p ∈ acc, p.1 < n) → putF acc n f = acc ++ [(n, f)]
  | [], n, f, _ => rfl
  | (m, g) :: t, n, f, h => by
    unfold putF
    rw [if_pos (h (m, g) (by simp)), putF_last f fun p hp => h p (List.mem_cons_of_mem _ hp)]
    rfl
theorem sure_eq {f : SF} (h : f.ok) (h2 : f.st = 2) : sureF f.b = f := by
  have h3 := h.none_ (by omega)
  cases f
  simp only at h2 h3
  subst h2 h3
  rfl
theorem crashF_sure : ∀ (fs : Fs) (kp : List Int) (acc : Fs), Rising (acc ++ fs) → (∀ p ∈ fs, p.2.ok) → (∀ p ∈ fs, p.2.st = 2) → crashF fs kp acc = acc ++ fs
  | [], kp, acc, _, _, _ => by simp [crashF]
  | (n, f) :: t, kp, acc, hr, ho, h2 => by
    have f2 : f.st = 2 := h2 (n, f) (by simp)
    have fo : f.ok := ho (n, f) (by simp)
    unfold crashF
    rw [if_pos f2]
    have hl : ∀ p ∈ acc, p.1 < n := fun p hp => (List.pairwise_append.1 hr).2.2 p hp (n, f) (by simp)
    rw [show putO acc n (some f.b) = acc ++ [(n, f)] from by
      show putF acc n (sureF f.b) = _
      rw [sure_eq fo f2, putF_last f hl]]
    rw [crashF_sure t kp (acc ++ [(n, f)]) (by simpa using hr) (fun p hp => ho p (List.mem_cons_of_mem _ hp)) (fun p hp => h2 p (List.mem_cons_of_mem _ hp))]
    simp
theorem crash_again {σ : St} {c : Nat} (h : σ.ok c) (k1 k2 : List Int) : (σ.crash k1).crash k2 = σ.crash k1 := by
  obtain ⟨h1, h2⟩ := St.ok_crash h k1
  have := crashF_sure (σ.crash k1).fs k2 [] (by simpa using h1.rising) h1.files h2
  unfold St.crash at this ⊢
  simp only [List.nil_append] at this
  rw [this]
section
variable {a w w' : World} {p q c : Nat} {σ τ : St} {M N B : Nat → Prop}
theorem Duo.crash (h : Duo a w p q σ τ c) (Pk : Option Addr) (mk ck : Nat) (kp : List Int) (hc : c ≤ 999999) (hk : Nums .i64 w Pk mk kp) (hmk : mk ≤ ck) (hck : mk ≤ 1000000) :
    Calls Try.prog 19 #[.pointer (some ⟨p, 0, none⟩), .slice Pk mk ck] w fun e w' => e = .returned (.pointer (some ⟨w.heap.size, 0, none⟩)) ∧ S w w' w.heap.size (σ.crash kp) c (Grw (fun _ => False) w w') ∧ Below w.heap.size w w' := by
  obtain ⟨⟨M, A, h1⟩, _⟩ := h.at_
  refine (sCrash_any Pk mk ck kp h1 hc hk hmk (by omega)).mono ?_
  rintro e w' ⟨he, h2, h3⟩
  refine ⟨he, ⟨_, h2, fun j hj => ?_, h3⟩, h3⟩
  rcases hj with hj | hj
  · exact hj.elim
  · exact hj.1
theorem crashR (hs : S a w p σ c M) (h : RefAt w q τ c N B) (Pk : Option Addr) (mk ck : Nat) (kp : List Int) (hc : c ≤ 999997) (hk : Nums .i64 w Pk mk kp) (hck : mk ≤ 1000000) :
    Calls Try.prog 20 #[.pointer (some ⟨q, 0, none⟩), .slice Pk mk ck] w fun e w' => e = .returned (.pointer (some ⟨w.heap.size, 0, none⟩)) ∧ Duo a w' p w.heap.size σ (τ.crash kp) c ∧ Below w.heap.size w w' := by
  refine (rCrash_any Pk mk ck kp h hc hk hck).mono ?_
  rintro e w' ⟨he, h2, h3⟩
  obtain ⟨A, h4, h5, h6⟩ := hs
  have hs6 := h6.size
  refine ⟨he, ⟨⟨M, A, _, _, h4.below h3, h2, fun k hk => ⟨h5 k hk, fun hn => ?_, fun hn => ?_⟩, fun k hk => ?_⟩, h6.trans (h3.mono hs6)⟩, h3⟩
  · have := h4.ml k hk
    rcases hn with hn | hn
    · exact hn
    · omega
  · have := h4.ml k hk
    rcases hn with hn | hn
    · exact hn
    · omega
  · rcases hk with hk | hk
    · exact hk.elim
    · exact ⟨by omega, fun hm => by have := h4.ml k hm; omega, fun hm => by have := h4.al k hm; omega⟩
/-- What is done from w on leaves what was there. -/
theorem Duo.apart {b : World} {p' q' c' : Nat} {σ' τ' : St} (h : Duo a b p q σ τ c) (h2 : Duo b w p' q' σ' τ' c') : Duo a w p q σ τ c := h.below h2.bel
end
end Go.Proofs.Ytgkgkekgmcldmaa
