/- What is sure stays behind a crash: the mathematics of it, no Go text in sight. -/
import Derived.Test.YtiebmilmeimpiaaSt0
namespace Go.Proofs.Ytiebmilmeimpiaa
theorem putO_other (acc : Fs) {n k : Nm} (o : Option (List Int)) (h : k ≠ n) : fnd (putO acc n o) k = fnd acc k := by
  cases o with
  | none => rfl
  | some b => exact fnd_put_other acc _ h
theorem putO_len (acc : Fs) (n : Nm) (o : Option (List Int)) : (putO acc n o).length ≤ acc.length + 1 := by
  cases o with
  | none => exact Nat.le_succ _
  | some b => exact len_put acc n _
theorem crash_other : ∀ (fs : Fs) (keep : List Int) (acc : Fs) (n : Nm), (∀ p ∈ fs, p.1 ≠ n) → fnd (crashF fs keep acc) n = fnd acc n
  | [], _, _, _, _ => rfl
  | (m, f) :: t, keep, acc, n, h => by
    have h1 : n ≠ m := Ne.symm (h (m, f) (by simp))
    have h2 : ∀ p ∈ t, p.1 ≠ n := fun p hp => h p (List.mem_cons_of_mem _ hp)
    unfold crashF
    split
    · rw [crash_other t _ _ n h2, putO_other _ _ h1]
    · rw [crash_other t _ _ n h2, putO_other _ _ h1]
theorem crash_sure : ∀ (fs : Fs) (keep : List Int) (acc : Fs) (n : Nm) (f : SF), Rising fs → (n, f) ∈ fs → f.st = 2 → fnd (crashF fs keep acc) n = some (sureF f.b)
  | [], _, _, _, _, _, h, _ => by simp at h
  | (m, g) :: t, keep, acc, n, f, hr, h, h2 => by
    obtain ⟨h3, h4⟩ := List.pairwise_cons.1 hr
    rcases List.mem_cons.1 h with e | h
    · injection e with e1 e2
      subst e1 e2
      unfold crashF
      rw [if_pos h2, crash_other t _ _ n fun p hp e => nm_irrefl n (by have := h3 p hp; rw [e] at this; exact this)]
      exact fnd_put_same _ _ _
    · unfold crashF
      split
      · exact crash_sure t _ _ n f h4 h h2
      · exact crash_sure t _ _ n f h4 h h2
theorem crash_len : ∀ (fs : Fs) (keep : List Int) (acc : Fs), (crashF fs keep acc).length ≤ fs.length + acc.length
  | [], _, acc => by simp [crashF]
  | (m, f) :: t, keep, acc => by
    unfold crashF
    split
    · have := crash_len t keep (putO acc m (some f.b))
      have := putO_len acc m (some f.b)
      simp only [List.length_cons]; omega
    · have := crash_len t keep.tail (putO acc m (leftF f (keep.headD 0)))
      have := putO_len acc m (leftF f (keep.headD 0))
      simp only [List.length_cons]; omega
theorem len_drop_some : ∀ {fs : Fs} {n : Nm} {f : SF}, fnd fs n = some f → (dropF fs n).length + 1 = fs.length
  | [], _, _, h => by simp [fnd] at h
  | (m, g) :: t, n, f, h => by
    unfold fnd at h
    unfold dropF
    split
    · simp
    · rename_i hne
      rw [if_neg hne] at h
      have := len_drop_some h
      simp only [List.length_cons]; omega
theorem sure_len : ∀ (sl : List Nm) (fs : Fs), sl.Nodup → Rising fs → (∀ n ∈ sl, ∃ f, fnd fs n = some f) → sl.length ≤ fs.length
  | [], _, _, _, _ => Nat.zero_le _
  | n :: t, fs, hd, hr, h => by
    obtain ⟨h1, h2⟩ := List.nodup_cons.1 hd
    obtain ⟨f, hf⟩ := h n (by simp)
    have := sure_len t (dropF fs n) h2 (rising_drop n hr) fun k hk => by
      obtain ⟨g, hg⟩ := h k (List.mem_cons_of_mem _ hk)
      exact ⟨g, by rw [fnd_drop_other fs (show k ≠ n from fun e => h1 (by rw [← e]; exact hk))]; exact hg⟩
    have := len_drop_some hf
    simp only [List.length_cons]; omega
def nm1 (j : Nat) : Nm := [UInt8.ofNat (97 + j)]
theorem nm1_ne {j k : Nat} (hj : j ≤ 12) (hk : k ≤ 12) (h : j ≠ k) : nm1 j ≠ nm1 k := fun e => by
  simp only [nm1, List.cons.injEq, and_true] at e
  have := congrArg UInt8.toNat e
  simp at this
  omega
structure GSu (σ : St) (k : Nat) (sl : List Nm) : Prop where
  lim : σ.lim = 1000
  used : usedF σ.fs ≤ 60 * k
  new : ∀ j, k ≤ j → j ≤ 12 → fnd σ.fs (nm1 j) = none
  sure : ∀ n ∈ sl, ∃ f, fnd σ.fs n = some f ∧ f.st = 2
  nodup : sl.Nodup
  len : sl.length ≤ k
  one : ∀ n ∈ sl, n.length = 1
theorem GSu.zero : GSu (St.new 1000) 0 [] := ⟨rfl, Nat.le_refl _, fun _ _ _ => rfl, by simp, List.nodup_nil, Nat.le_refl _, by simp⟩
theorem GSu.write {σ : St} {k : Nat} {sl : List Nm} (h : GSu σ k sl) (hk : k ≤ 11) (hr : Rising σ.fs) (xs : List Int) (hx : xs.length ≤ 60) :
    ∃ σ', σ.write (nm1 k) xs = (0, σ') ∧ GSu σ' (k + 1) sl ∧ fnd σ'.fs (nm1 k) = some ⟨xs, 0, []⟩ ∧ nm1 k ∉ sl := by
  have hu := h.used
  have hl := h.lim
  have hn := h.new k (Nat.le_refl _) (by omega)
  have hs : nm1 k ∉ sl := fun hm => by
    obtain ⟨f, hf, _⟩ := h.sure _ hm
    rw [hn] at hf
    cases hf
  refine ⟨σ.deed (putF σ.fs (nm1 k) ⟨xs, 0, []⟩) 1 (nm1 k), ?_, ⟨hl, ?_, fun j h1 h2 => ?_, fun n hm => ?_, h.nodup, by have := h.len; omega, h.one⟩, fnd_put_same _ _ _, hs⟩
  · unfold St.write
    rw [if_neg (by simp [nameOk, nm1]), if_neg (by rw [hn, hl]; simp only [lenF]; omega), hn]
    rfl
  · have := used_put (nm1 k) ⟨xs, 0, []⟩ hr
    rw [hn] at this
    simp only [lenF] at this
    show usedF (putF σ.fs (nm1 k) ⟨xs, 0, []⟩) ≤ _
    omega
  · show fnd (putF σ.fs (nm1 k) ⟨xs, 0, []⟩) (nm1 j) = none
    rw [fnd_put_other _ _ (nm1_ne h2 (by omega) (by omega))]
    exact h.new j (by omega) h2
  · obtain ⟨f, hf, h2⟩ := h.sure n hm
    refine ⟨f, ?_, h2⟩
    show fnd (putF σ.fs (nm1 k) ⟨xs, 0, []⟩) n = some f
    rw [fnd_put_other _ _ (show n ≠ nm1 k from fun e => hs (by rw [← e]; exact hm))]
    exact hf
theorem GSu.sync {σ : St} {k : Nat} {sl : List Nm} {xs : List Int} (h : GSu σ (k + 1) sl) (hk : k ≤ 11) (hlen : sl.length ≤ k) (hr : Rising σ.fs) (hf : fnd σ.fs (nm1 k) = some ⟨xs, 0, []⟩) (hs : nm1 k ∉ sl) :
    ∃ σ', σ.sync (nm1 k) = (0, σ') ∧ GSu σ' (k + 1) (sl ++ [nm1 k]) := by
  refine ⟨σ.deed (putF σ.fs (nm1 k) (sureF xs)) 2 (nm1 k), ?_, ⟨h.lim, ?_, fun j h1 h2 => ?_, fun n hm => ?_, ?_, by simp; omega, fun n hm => ?_⟩⟩
  · unfold St.sync
    rw [hf]
  · have := used_put (nm1 k) (sureF xs) hr
    rw [hf] at this
    simp only [lenF, sureF] at this
    have := h.used
    show usedF (putF σ.fs (nm1 k) (sureF xs)) ≤ _
    simp only [sureF]
    omega
  · show fnd (putF σ.fs (nm1 k) (sureF xs)) (nm1 j) = none
    rw [fnd_put_other _ _ (nm1_ne h2 (by omega) (by omega))]
    exact h.new j (by omega) h2
  · rcases List.mem_append.1 hm with hm | hm
    · obtain ⟨f, hf, h2⟩ := h.sure n hm
      refine ⟨f, ?_, h2⟩
      show fnd (putF σ.fs (nm1 k) (sureF xs)) n = some f
      rw [fnd_put_other _ _ (show n ≠ nm1 k from fun e => hs (by rw [← e]; exact hm))]
      exact hf
    · rw [List.mem_singleton.1 hm]
      exact ⟨_, fnd_put_same _ _ _, rfl⟩
  · exact List.nodup_append.2 ⟨h.nodup, by simp, fun a ha b hb e => hs (by rw [List.mem_singleton.1 hb] at e; exact e ▸ ha)⟩
  · rcases List.mem_append.1 hm with hm | hm
    · exact h.one n hm
    · rw [List.mem_singleton.1 hm]; rfl
end Go.Proofs.Ytiebmilmeimpiaa
