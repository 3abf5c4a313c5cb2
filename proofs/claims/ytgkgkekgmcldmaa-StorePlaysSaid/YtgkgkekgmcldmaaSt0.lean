/- Files by their names: what a store holds, what its calls make of it. Plain mathematics. -/
import Derived.Lib.Hide
import Derived.Sort.KeysCollected
namespace Go.Proofs.Ytgkgkekgmcldmaa

abbrev Nm := List UInt8
/-- A file: its bytes; how sure they are (0: nothing is, 1: what it had is, 2: they are); what it had. -/
structure SF where
  b : List Int
  st : Nat
  old : List Int
abbrev Fs := List (Nm × SF)

theorem nm_irrefl (a : Nm) : ¬ a < a := List.lt_irrefl a
theorem nm_trans {a b c : Nm} (h : a < b) (k : b < c) : a < c := List.lt_trans h k
theorem nm_asymm {a b : Nm} (h : a < b) : ¬ b < a := fun k => nm_irrefl a (nm_trans h k)
theorem nm_tri {a b : Nm} (h : ¬ a < b) (k : a ≠ b) : b < a := by
  rcases Classical.em (b < a) with hb | hb
  · exact hb
  · exact absurd (List.le_antisymm (List.not_lt.1 hb) (List.not_lt.1 h)) k
theorem nm_ne {a b : Nm} (h : a < b) : a ≠ b := fun e => nm_irrefl b (e ▸ h)

def fnd : Fs → Nm → Option SF
  | [], _ => none
  | (m, f) :: t, n => if m = n then some f else fnd t n
def putF : Fs → Nm → SF → Fs
  | [], n, f => [(n, f)]
  | (m, g) :: t, n, f => if m < n then (m, g) :: putF t n f else if m = n then (n, f) :: t else (n, f) :: (m, g) :: t
def dropF : Fs → Nm → Fs
  | [], _ => []
  | (m, g) :: t, n => if m = n then t else (m, g) :: dropF t n
def usedF (fs : Fs) : Nat := (fs.map fun p => p.2.b.length).sum
def Rising (fs : Fs) : Prop := fs.Pairwise fun p q => p.1 < q.1
/-- Where a name is, or would be. -/
def posF : Fs → Nm → Nat
  | [], _ => 0
  | (m, _) :: t, n => if m < n then posF t n + 1 else 0
def lenF (o : Option SF) : Nat := match o with | none => 0 | some f => f.b.length

theorem mem_putF : ∀ {fs : Fs} {n : Nm} {f : SF} {p : Nm × SF}, p ∈ putF fs n f → p = (n, f) ∨ p ∈ fs
  | [], n, f, p, h => by simp [putF] at h; exact .inl h
  | (m, g) :: t, n, f, p, h => by
    unfold putF at h
    split at h
    · rcases List.mem_cons.1 h with rfl | h
      · exact .inr (by simp)
      · rcases mem_putF h with h | h
        · exact .inl h
        · exact .inr (List.mem_cons_of_mem _ h)
    · split at h
      · rcases List.mem_cons.1 h with rfl | h
        · exact .inl rfl
        · exact .inr (List.mem_cons_of_mem _ h)
      · rcases List.mem_cons.1 h with rfl | h
        · exact .inl rfl
        · exact .inr h
theorem mem_dropF : ∀ {fs : Fs} {n : Nm} {p : Nm × SF}, p ∈ dropF fs n → p ∈ fs
  | [], n, p, h => by simp [dropF] at h
  | (m, g) :: t, n, p, h => by
    unfold dropF at h
    split at h
    · exact List.mem_cons_of_mem _ h
    · rcases List.mem_cons.1 h with rfl | h
      · simp
      · exact List.mem_cons_of_mem _ (mem_dropF h)
theorem rising_put : ∀ {fs : Fs} (n : Nm) (f : SF), Rising fs → Rising (putF fs n f)
  | [], n, f, _ => by simp [putF, Rising]
  | (m, g) :: t, n, f, h => by
    obtain ⟨h1, h2⟩ := List.pairwise_cons.1 h
    unfold putF
    split
    · rename_i hlt
      refine List.pairwise_cons.2 ⟨fun p hp => ?_, rising_put n f h2⟩
      rcases mem_putF hp with rfl | hp
      · exact hlt
      · exact h1 p hp
    · rename_i hlt
      split
      · rename_i he
        subst he
        exact List.pairwise_cons.2 ⟨fun p hp => h1 p hp, h2⟩
      · rename_i hne
        have := nm_tri hlt hne
        refine List.pairwise_cons.2 ⟨fun p hp => ?_, h⟩
        rcases List.mem_cons.1 hp with rfl | hp
        · exact this
        · exact nm_trans this (h1 p hp)
theorem rising_drop : ∀ {fs : Fs} (n : Nm), Rising fs → Rising (dropF fs n)
  | [], n, _ => by simp [dropF, Rising]
  | (m, g) :: t, n, h => by
    obtain ⟨h1, h2⟩ := List.pairwise_cons.1 h
    unfold dropF
    split
    · exact h2
    · exact List.pairwise_cons.2 ⟨fun p hp => h1 p (mem_dropF hp), rising_drop n h2⟩
theorem fnd_lt : ∀ {fs : Fs} {n : Nm}, (∀ p ∈ fs, n < p.1) → fnd fs n = none
  | [], _, _ => rfl
  | (m, g) :: t, n, h => by
    have h1 := h (m, g) (by simp)
    unfold fnd
    rw [if_neg (fun e => nm_irrefl n (by rw [← e]; rw [← e] at h1; exact h1))]
    exact fnd_lt fun p hp => h p (List.mem_cons_of_mem _ hp)
theorem fnd_put_same : ∀ (fs : Fs) (n : Nm) (f : SF), fnd (putF fs n f) n = some f
  | [], n, f => by simp [putF, fnd]
  | (m, g) :: t, n, f => by
    unfold putF
    split
    · rename_i h
      unfold fnd
      rw [if_neg (nm_ne h)]
      exact fnd_put_same t n f
    · split <;> simp [fnd]
theorem fnd_put_other : ∀ (fs : Fs) {n k : Nm} (f : SF), k ≠ n → fnd (putF fs n f) k = fnd fs k
  | [], n, k, f, h => by simp [putF, fnd, Ne.symm h]
  | (m, g) :: t, n, k, f, h => by
    unfold putF
    split
    · unfold fnd
      split
      · rfl
      · exact fnd_put_other t f h
    · split
      · rename_i he
        subst he
        simp [fnd, Ne.symm h]
      · simp [fnd, Ne.symm h]
theorem fnd_drop_same : ∀ {fs : Fs} (n : Nm), Rising fs → fnd (dropF fs n) n = none
  | [], n, _ => rfl
  | (m, g) :: t, n, h => by
    obtain ⟨h1, h2⟩ := List.pairwise_cons.1 h
    unfold dropF
    split
    · rename_i he
      subst he
      exact fnd_lt h1
    · rename_i hne
      unfold fnd
      rw [if_neg hne]
      exact fnd_drop_same n h2
theorem fnd_drop_other : ∀ (fs : Fs) {n k : Nm}, k ≠ n → fnd (dropF fs n) k = fnd fs k
  | [], n, k, h => rfl
  | (m, g) :: t, n, k, h => by
    unfold dropF
    split
    · rename_i he
      subst he
      rw [fnd, if_neg (Ne.symm h)]
    · unfold fnd
      split
      · rfl
      · exact fnd_drop_other t h
theorem fnd_mem : ∀ {fs : Fs} {n : Nm} {f : SF}, fnd fs n = some f → (n, f) ∈ fs
  | [], n, f, h => by cases h
  | (m, g) :: t, n, f, h => by
    unfold fnd at h
    split at h
    · rename_i he
      subst he
      injection h with h
      subst h
      simp
    · exact List.mem_cons_of_mem _ (fnd_mem h)
theorem fnd_none : ∀ {fs : Fs} {n : Nm}, fnd fs n = none → ∀ p ∈ fs, p.1 ≠ n
  | [], n, _, p, hp => by cases hp
  | (m, g) :: t, n, h, p, hp => by
    unfold fnd at h
    split at h
    · cases h
    · rename_i hne
      rcases List.mem_cons.1 hp with rfl | hp
      · exact hne
      · exact fnd_none h p hp
theorem fnd_of_mem : ∀ {fs : Fs} {n : Nm} {f : SF}, Rising fs → (n, f) ∈ fs → fnd fs n = some f
  | (m, g) :: t, n, f, h, hp => by
    obtain ⟨h1, h2⟩ := List.pairwise_cons.1 h
    unfold fnd
    rcases List.mem_cons.1 hp with e | hp
    · injection e with e1 e2
      rw [if_pos e1.symm, e2]
    · rw [if_neg (nm_ne (h1 _ hp))]
      exact fnd_of_mem h2 hp
theorem used_put : ∀ {fs : Fs} (n : Nm) (f : SF), Rising fs → usedF (putF fs n f) + lenF (fnd fs n) = usedF fs + f.b.length
  | [], n, f, _ => by simp [putF, usedF, fnd, lenF]
  | (m, g) :: t, n, f, h => by
    obtain ⟨h1, h2⟩ := List.pairwise_cons.1 h
    unfold putF
    split
    · rename_i hlt
      have := used_put n f h2
      unfold fnd
      rw [if_neg (nm_ne hlt)]
      simp only [usedF, List.map_cons, List.sum_cons] at this ⊢
      omega
    · rename_i hlt
      split
      · rename_i he
        subst he
        simp only [usedF, List.map_cons, List.sum_cons, fnd, if_pos, lenF]
        omega
      · rename_i hne
        have hz : fnd ((m, g) :: t) n = none := fnd_lt fun p hp => by
          rcases List.mem_cons.1 hp with rfl | hp
          · exact nm_tri hlt hne
          · exact nm_trans (nm_tri hlt hne) (h1 p hp)
        rw [hz]
        simp only [usedF, List.map_cons, List.sum_cons, lenF]
        omega
theorem used_drop : ∀ (fs : Fs) (n : Nm), usedF (dropF fs n) + lenF (fnd fs n) = usedF fs
  | [], n => rfl
  | (m, g) :: t, n => by
    have := used_drop t n
    unfold dropF fnd
    split
    · simp only [usedF, List.map_cons, List.sum_cons, lenF]; omega
    · simp only [usedF, List.map_cons, List.sum_cons] at this ⊢; omega
theorem len_put : ∀ (fs : Fs) (n : Nm) (f : SF), (putF fs n f).length ≤ fs.length + 1
  | [], n, f => by simp [putF]
  | (m, g) :: t, n, f => by
    have := len_put t n f
    unfold putF
    split
    · simp; omega
    · split <;> simp
theorem len_drop : ∀ (fs : Fs) (n : Nm), (dropF fs n).length ≤ fs.length
  | [], n => by simp [dropF]
  | (m, g) :: t, n => by
    have := len_drop t n
    unfold dropF
    split <;> simp <;> omega
/-! ### By places -/
theorem pos_le : ∀ (fs : Fs) (n : Nm), posF fs n ≤ fs.length
  | [], n => by simp [posF]
  | (m, g) :: t, n => by
    have := pos_le t n
    unfold posF
    split <;> simp; omega
theorem pos_lt : ∀ {fs : Fs} {n : Nm} {k : Nat} {p : Nm × SF}, k < posF fs n → fs[k]? = some p → p.1 < n
  | [], n, k, p, h, hk => by simp at hk
  | (m, g) :: t, n, k, p, h, hk => by
    unfold posF at h
    split at h
    · rename_i hlt
      cases k with
      | zero => simp at hk; subst hk; exact hlt
      | succ k => exact pos_lt (fs := t) (k := k) (by omega) (by simpa using hk)
    · omega
theorem pos_at : ∀ {fs : Fs} {n : Nm} {p : Nm × SF}, fs[posF fs n]? = some p → ¬ p.1 < n
  | [], n, p, h => by simp at h
  | (m, g) :: t, n, p, h => by
    unfold posF at h
    split at h
    · exact pos_at (fs := t) (by simpa using h)
    · rename_i hlt
      simp at h
      subst h
      exact hlt
theorem fnd_pos : ∀ {fs : Fs} {n : Nm}, Rising fs → fnd fs n = (fs[posF fs n]?).bind fun p => if p.1 = n then some p.2 else none
  | [], n, _ => rfl
  | (m, g) :: t, n, h => by
    obtain ⟨h1, h2⟩ := List.pairwise_cons.1 h
    have ih := fnd_pos (n := n) h2
    unfold fnd posF
    by_cases hlt : m < n
    · rw [if_pos hlt, if_neg (nm_ne hlt)]
      simpa using ih
    · rw [if_neg hlt]
      by_cases he : m = n
      · simp [he]
      · simp only [he, if_false, List.getElem?_cons_zero, Option.bind_some]
        exact fnd_lt fun p hp => nm_trans (nm_tri hlt he) (h1 p hp)
theorem put_pos_yes : ∀ {fs : Fs} {n : Nm} (f : SF) {p : Nm × SF}, fs[posF fs n]? = some p → p.1 = n → putF fs n f = fs.set (posF fs n) (n, f)
  | [], n, f, p, h, _ => by simp at h
  | (m, g) :: t, n, f, p, h, hn => by
    unfold posF at h
    unfold putF posF
    by_cases hlt : m < n
    · rw [if_pos hlt] at h
      rw [if_pos hlt, if_pos hlt, List.set_cons_succ]
      rw [put_pos_yes f (by simpa using h) hn]
    · rw [if_neg hlt] at h
      rw [if_neg hlt, if_neg hlt]
      simp at h
      subst h
      rw [if_pos hn]
      rfl
theorem put_pos_no : ∀ {fs : Fs} {n : Nm} (f : SF), (∀ p, fs[posF fs n]? = some p → p.1 ≠ n) → putF fs n f = fs.take (posF fs n) ++ (n, f) :: fs.drop (posF fs n)
  | [], n, f, _ => by simp [putF, posF]
  | (m, g) :: t, n, f, h => by
    unfold posF at h
    unfold putF posF
    by_cases hlt : m < n
    · rw [if_pos hlt] at h
      rw [if_pos hlt, if_pos hlt, put_pos_no f (fun p hp => h p (by simpa using hp))]
      simp
    · rw [if_neg hlt] at h
      rw [if_neg hlt, if_neg hlt, if_neg (h (m, g) (by simp))]
      simp
theorem drop_pos : ∀ {fs : Fs} {n : Nm} {p : Nm × SF}, fs[posF fs n]? = some p → p.1 = n → dropF fs n = fs.take (posF fs n) ++ fs.drop (posF fs n + 1)
  | [], n, p, h, _ => by simp at h
  | (m, g) :: t, n, p, h, hn => by
    unfold posF at h
    unfold dropF posF
    by_cases hlt : m < n
    · rw [if_pos hlt] at h
      rw [if_pos hlt, if_neg (nm_ne hlt), drop_pos (by simpa using h) hn]
      simp
    · rw [if_neg hlt] at h
      rw [if_neg hlt]
      simp at h
      subst h
      rw [if_pos hn]
      simp
/-! ### A store -/
structure St where
  lim : Int
  fs : Fs
  ops : List (Int × Nm)
def nameOk (n : Nm) : Bool := decide (1 ≤ n.length) && decide (n.length ≤ 20)
def wrF (o : Option SF) (b : List Int) : SF := match o with | none => ⟨b, 0, []⟩ | some f => if f.st = 2 then ⟨b, 1, f.b⟩ else ⟨b, f.st, f.old⟩
def sureF (b : List Int) : SF := ⟨b, 2, []⟩
def St.new (k : Int) : St := ⟨k, [], []⟩
def St.deed (σ : St) (fs : Fs) (k : Int) (n : Nm) : St := ⟨σ.lim, fs, σ.ops ++ [(k, n)]⟩
def St.write (σ : St) (n : Nm) (b : List Int) : Int × St :=
  if nameOk n = false then (1, σ) else if σ.lim < (usedF σ.fs : Int) - lenF (fnd σ.fs n) + b.length then (4, σ) else (0, σ.deed (putF σ.fs n (wrF (fnd σ.fs n) b)) 1 n)
def St.sync (σ : St) (n : Nm) : Int × St := match fnd σ.fs n with | none => (5, σ) | some f => (0, σ.deed (putF σ.fs n (sureF f.b)) 2 n)
def St.publish (σ : St) (a c : Nm) : Int × St :=
  if nameOk c = false then (1, σ) else match fnd σ.fs a with
  | none => (5, σ)
  | some f => if f.st ≠ 2 then (6, σ) else if (fnd σ.fs c).isSome then (9, σ) else (0, σ.deed (putF (dropF σ.fs a) c (sureF f.b)) 3 c)
def St.remove (σ : St) (n : Nm) : Int × St := match fnd σ.fs n with | none => (5, σ) | some _ => (0, σ.deed (dropF σ.fs n) 4 n)
/-- What a crash leaves of an unsure file. -/
def leftF (f : SF) (k : Int) : Option (List Int) := if k = 1 then some f.b else if k = 2 then some (f.b.take (f.b.length / 2)) else if f.st = 1 then some f.old else none
def putO (fs : Fs) (n : Nm) : Option (List Int) → Fs
  | none => fs
  | some b => putF fs n (sureF b)
def crashF : Fs → List Int → Fs → Fs
  | [], _, acc => acc
  | (n, f) :: t, keep, acc => if f.st = 2 then crashF t keep (putO acc n (some f.b)) else crashF t keep.tail (putO acc n (leftF f (keep.headD 0)))
def St.crash (σ : St) (keep : List Int) : St := ⟨σ.lim, crashF σ.fs keep [], []⟩

/-- What the walks lean on: names that may be, in order; bytes that are bytes; all of it small. -/
structure SF.ok (f : SF) : Prop where
  b : f.b.length ≤ 1000 ∧ ∀ x ∈ f.b, 0 ≤ x ∧ x ≤ 255
  old : f.old.length ≤ 1000 ∧ ∀ x ∈ f.old, 0 ≤ x ∧ x ≤ 255
  st : f.st ≤ 2
  none_ : f.st ≠ 1 → f.old = []
structure St.ok (σ : St) (c : Nat) : Prop where
  rising : Rising σ.fs
  names : ∀ p ∈ σ.fs, nameOk p.1 = true
  files : ∀ p ∈ σ.fs, p.2.ok
  few : σ.fs.length ≤ c
  ops : σ.ops.length ≤ c
  onames : ∀ p ∈ σ.ops, nameOk p.2 = true ∧ 0 ≤ p.1 ∧ p.1 ≤ 4
  lim : 0 ≤ σ.lim ∧ σ.lim ≤ 1000000
theorem nameOk_le {n : Nm} (h : nameOk n = true) : 1 ≤ n.length ∧ n.length ≤ 20 := by simpa [nameOk] using h
theorem used_le : ∀ {fs : Fs}, (∀ p ∈ fs, p.2.ok) → usedF fs ≤ fs.length * 1000
  | [], _ => by simp [usedF]
  | p :: t, h => by
    have h1 := used_le fun q hq => h q (List.mem_cons_of_mem _ hq)
    have h2 := (h p (by simp)).b.1
    simp only [usedF, List.map_cons, List.sum_cons, List.length_cons] at h1 ⊢
    omega
theorem St.ok.used {σ : St} {c : Nat} (h : σ.ok c) (hc : c ≤ 1000000) : usedF σ.fs ≤ 1000000000 := by
  have := used_le h.files
  have := h.few
  omega
theorem lenF_le : ∀ (fs : Fs) (n : Nm), lenF (fnd fs n) ≤ usedF fs
  | [], n => by simp [lenF, fnd]
  | (m, g) :: t, n => by
    have := lenF_le t n
    simp only [usedF, List.map_cons, List.sum_cons] at this ⊢
    unfold fnd
    split
    · simp [lenF]
    · omega
theorem St.ok.fnd {σ : St} {c : Nat} (h : σ.ok c) {n : Nm} {f : SF} (hf : fnd σ.fs n = some f) : f.ok ∧ nameOk n = true := ⟨h.files _ (fnd_mem hf), h.names _ (fnd_mem hf)⟩
theorem sureF_ok {b : List Int} (h : b.length ≤ 1000 ∧ ∀ x ∈ b, 0 ≤ x ∧ x ≤ 255) : (sureF b).ok := ⟨h, by simp [sureF], by simp [sureF], by simp [sureF]⟩
theorem wrF_ok {o : Option SF} {b : List Int} (ho : ∀ f, o = some f → f.ok) (h : b.length ≤ 1000 ∧ ∀ x ∈ b, 0 ≤ x ∧ x ≤ 255) : (wrF o b).ok := by
  unfold wrF
  cases o with
  | none => exact ⟨h, by simp, by simp, by simp⟩
  | some f =>
    have hf := ho f rfl
    dsimp only
    split
    · exact ⟨h, hf.b, by simp, by simp⟩
    · rename_i hs
      exact ⟨h, hf.old, hf.st, hf.none_⟩
theorem St.ok.more {σ : St} {c c' : Nat} (h : σ.ok c) (hc : c ≤ c') : σ.ok c' := ⟨h.rising, h.names, h.files, Nat.le_trans h.few hc, Nat.le_trans h.ops hc, h.onames, h.lim⟩
theorem St.ok.put {σ : St} {c : Nat} (h : σ.ok c) {n : Nm} {f : SF} (hn : nameOk n = true) (hf : f.ok) (k : Int) (hk : 0 ≤ k ∧ k ≤ 4) : (σ.deed (putF σ.fs n f) k n).ok (c + 1) := by
  refine ⟨rising_put _ _ h.rising, fun p hp => ?_, fun p hp => ?_, ?_, ?_, fun p hp => ?_, h.lim⟩
  · rcases mem_putF hp with rfl | hp
    · exact hn
    · exact h.names p hp
  · rcases mem_putF hp with rfl | hp
    · exact hf
    · exact h.files p hp
  · have := len_put σ.fs n f
    have := h.few
    show (putF σ.fs n f).length ≤ _
    omega
  · have := h.ops
    show (σ.ops ++ [(k, n)]).length ≤ _
    simp; omega
  · rcases List.mem_append.1 hp with hp | hp
    · exact h.onames p hp
    · simp at hp; subst hp; exact ⟨hn, hk⟩
theorem St.ok.dropped {σ : St} {c : Nat} (h : σ.ok c) (n : Nm) : (St.mk σ.lim (dropF σ.fs n) σ.ops).ok c :=
  ⟨rising_drop n h.rising, fun p hp => h.names p (mem_dropF hp), fun p hp => h.files p (mem_dropF hp), Nat.le_trans (len_drop _ _) h.few, h.ops, h.onames, h.lim⟩
theorem St.ok.drop {σ : St} {c : Nat} (h : σ.ok c) (n : Nm) (hn : nameOk n = true) : (σ.deed (dropF σ.fs n) 4 n).ok (c + 1) := by
  have h1 := h.dropped n
  refine ⟨h1.rising, h1.names, h1.files, Nat.le_succ_of_le h1.few, ?_, fun p hp => ?_, h.lim⟩
  · have := h.ops
    show (σ.ops ++ [(4, n)]).length ≤ _
    simp; omega
  · rcases List.mem_append.1 hp with hp | hp
    · exact h.onames p hp
    · simp at hp; subst hp; exact ⟨hn, by omega, by omega⟩
theorem St.ok_write {σ : St} {c : Nat} (h : σ.ok c) (n : Nm) {b : List Int} (hb : b.length ≤ 1000 ∧ ∀ x ∈ b, 0 ≤ x ∧ x ≤ 255) : (σ.write n b).2.ok (c + 1) := by
  unfold St.write
  split
  · exact h.more (by omega)
  · rename_i hn
    split
    · exact h.more (by omega)
    · exact h.put (by simpa using hn) (wrF_ok (fun f hf => (h.fnd hf).1) hb) 1 (by omega)
theorem St.ok_sync {σ : St} {c : Nat} (h : σ.ok c) (n : Nm) : (σ.sync n).2.ok (c + 1) := by
  unfold St.sync
  split
  · exact h.more (by omega)
  · rename_i f hf
    exact h.put (h.fnd hf).2 (sureF_ok (h.fnd hf).1.b) 2 (by omega)
theorem St.ok_remove {σ : St} {c : Nat} (h : σ.ok c) (n : Nm) : (σ.remove n).2.ok (c + 1) := by
  unfold St.remove
  split
  · exact h.more (by omega)
  · rename_i f hf
    exact h.drop n (h.fnd hf).2
theorem St.ok_publish {σ : St} {c : Nat} (h : σ.ok c) (a n : Nm) : (σ.publish a n).2.ok (c + 1) := by
  unfold St.publish
  split
  · exact h.more (by omega)
  · rename_i hn
    split
    · exact h.more (by omega)
    · rename_i f hf
      split
      · exact h.more (by omega)
      · split
        · exact h.more (by omega)
        · exact (h.dropped a).put (by simpa using hn) (sureF_ok (h.fnd hf).1.b) 3 (by omega)
theorem leftF_ok {f : SF} (hf : f.ok) {k : Int} {b : List Int} (h : leftF f k = some b) : b.length ≤ 1000 ∧ ∀ x ∈ b, 0 ≤ x ∧ x ≤ 255 := by
  unfold leftF at h
  split at h
  · injection h with h; subst h; exact hf.b
  · split at h
    · injection h with h; subst h
      exact ⟨by have := hf.b.1; rw [List.length_take]; omega, fun x hx => hf.b.2 x (List.mem_of_mem_take hx)⟩
    · split at h
      · injection h with h; subst h; exact hf.old
      · cases h
/-- A row of files that are all sure. -/
structure AccOk (acc : Fs) (c : Nat) : Prop where
  rising : Rising acc
  names : ∀ p ∈ acc, nameOk p.1 = true
  files : ∀ p ∈ acc, p.2.ok
  sure : ∀ p ∈ acc, p.2.st = 2
  few : acc.length ≤ c
theorem AccOk.put {acc : Fs} {c : Nat} (h : AccOk acc c) {n : Nm} (hn : nameOk n = true) (o : Option (List Int)) (ho : ∀ b, o = some b → b.length ≤ 1000 ∧ ∀ x ∈ b, 0 ≤ x ∧ x ≤ 255) : AccOk (putO acc n o) (c + 1) := by
  cases o with
  | none => exact ⟨h.rising, h.names, h.files, h.sure, Nat.le_succ_of_le h.few⟩
  | some b =>
    refine ⟨rising_put _ _ h.rising, fun p hp => ?_, fun p hp => ?_, fun p hp => ?_, Nat.le_trans (len_put _ _ _) (Nat.succ_le_succ h.few)⟩
    · rcases mem_putF hp with rfl | hp
      · exact hn
      · exact h.names p hp
    · rcases mem_putF hp with rfl | hp
      · exact sureF_ok (ho b rfl)
      · exact h.files p hp
    · rcases mem_putF hp with rfl | hp
      · rfl
      · exact h.sure p hp
theorem AccOk.nil : AccOk [] 0 := ⟨List.Pairwise.nil, by simp, by simp, by simp, by simp⟩
theorem AccOk.ok {acc : Fs} {c : Nat} (h : AccOk acc c) {lim : Int} (hl : 0 ≤ lim ∧ lim ≤ 1000000) : (St.mk lim acc []).ok c := ⟨h.rising, h.names, h.files, h.few, Nat.zero_le _, by simp, hl⟩
theorem crashF_ok : ∀ {fs : Fs} {keep : List Int} {acc : Fs} {c : Nat}, (∀ p ∈ fs, nameOk p.1 = true) → (∀ p ∈ fs, p.2.ok) → AccOk acc c → AccOk (crashF fs keep acc) (c + fs.length)
  | [], keep, acc, c, _, _, h => h
  | (n, f) :: t, keep, acc, c, hn, hf, h => by
    have hn1 := hn (n, f) (by simp)
    have hf1 := hf (n, f) (by simp)
    have hn2 : ∀ p ∈ t, nameOk p.1 = true := fun p hp => hn p (List.mem_cons_of_mem _ hp)
    have hf2 : ∀ p ∈ t, p.2.ok := fun p hp => hf p (List.mem_cons_of_mem _ hp)
    rw [List.length_cons, show c + (t.length + 1) = (c + 1) + t.length by omega]
    unfold crashF
    split
    · exact crashF_ok hn2 hf2 (h.put hn1 _ fun b hb => by injection hb with hb; subst hb; exact hf1.b)
    · exact crashF_ok hn2 hf2 (h.put hn1 _ fun b hb => leftF_ok hf1 hb)
theorem St.ok_crash {σ : St} {c : Nat} (h : σ.ok c) (keep : List Int) : (σ.crash keep).ok c ∧ ∀ p ∈ (σ.crash keep).fs, p.2.st = 2 := by
  have := crashF_ok (keep := keep) h.names h.files AccOk.nil
  exact ⟨(this.ok h.lim).more (by have := h.few; omega), this.sure⟩
theorem St.ok_new {k : Int} (h : 0 ≤ k ∧ k ≤ 1000000) : (St.new k).ok 0 := ⟨List.Pairwise.nil, by simp [St.new], by simp [St.new], by simp [St.new], by simp [St.new], by simp [St.new], h⟩
end Go.Proofs.Ytgkgkekgmcldmaa
