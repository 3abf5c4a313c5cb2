/- The reference's store in memory; where a name is. -/
import Derived.Test.YtgkgkekgmcldmaaSt10
namespace Go.Proofs.Ytgkgkekgmcldmaa
open Go.RowKit
/-- A file of the reference's, as it lies. -/
structure RFv where
  n : Nm
  f : SF
  vb : Value
  vo : Value
  had : Bool
def cell5 (r : RFv) : List Value := [.string (str r.n), r.vb, r.vo, .bool (decide (r.f.st = 2)), .bool r.had]
def rCells (rs : List RFv) : List Value := rs.flatMap cell5
def ofF (rs : List RFv) : Fs := rs.map fun r => (r.n, r.f)
structure ROk (A : Nat → Prop) (w : World) (r : RFv) : Prop where
  b : FB A w r.vb r.f.b
  o : ∃ ox, FB A w r.vo ox ∧ (r.f.st = 1 → r.had = true ∧ ox = r.f.old)
  none_ : r.f.st = 0 → r.had = false
theorem rCells_len (rs : List RFv) : (rCells rs).length = rs.length * 5 := by
  induction rs with
  | nil => rfl
  | cons p t ih => unfold rCells at ih ⊢; rw [List.flatMap_cons, List.length_append, ih, List.length_cons]; simp only [cell5, List.length_cons, List.length_nil]; omega
theorem rCells_append (a b : List RFv) : rCells (a ++ b) = rCells a ++ rCells b := by simp [rCells]
theorem rCells_at : ∀ {rs : List RFv} {i : Nat} {r : RFv}, rs[i]? = some r → ∀ j, j < 5 → (rCells rs)[i * 5 + j]? = (cell5 r)[j]?
  | p :: t, 0, q, h, j, hj => by
    simp at h
    subst h
    simp only [rCells, List.flatMap_cons, Nat.zero_mul, Nat.zero_add]
    rw [List.getElem?_append_left (by simp [cell5]; omega)]
  | p :: t, i + 1, q, h, j, hj => by
    have := rCells_at (rs := t) (i := i) (r := q) (by simpa using h) j hj
    have e : rCells (p :: t) = cell5 p ++ rCells t := by simp [rCells]
    rw [e, List.getElem?_append_right (by simp [cell5]; omega)]
    rw [show (i + 1) * 5 + j - (cell5 p).length = i * 5 + j from by simp [cell5]; omega]
    exact this
theorem rCells_take (rs : List RFv) (k : Nat) : rCells (rs.take k) = (rCells rs).take (k * 5) := by
  induction rs generalizing k with
  | nil => simp [rCells]
  | cons p t ih =>
    cases k with
    | zero => simp [rCells]
    | succ k =>
      have e : rCells (p :: t) = cell5 p ++ rCells t := by simp [rCells]
      have e2 : rCells (p :: t.take k) = cell5 p ++ rCells (t.take k) := by simp [rCells]
      have e3 : (cell5 p).length = 5 := rfl
      rw [List.take_succ_cons, e2, e, List.take_append, ih, e3, List.take_of_length_le (l := cell5 p) (i := (k + 1) * 5) (by rw [e3]; omega), show (k + 1) * 5 - 5 = k * 5 from by omega]
theorem rCells_drop (rs : List RFv) (k : Nat) : rCells (rs.drop k) = (rCells rs).drop (k * 5) := by
  induction rs generalizing k with
  | nil => simp [rCells]
  | cons p t ih =>
    cases k with
    | zero => simp
    | succ k =>
      have e : rCells (p :: t) = cell5 p ++ rCells t := by simp [rCells]
      have e3 : (cell5 p).length = 5 := rfl
      rw [List.drop_succ_cons, e, List.drop_append, ih, e3, show (cell5 p).drop ((k + 1) * 5) = [] from List.drop_eq_nil_of_le (by rw [e3]; omega), List.nil_append, show (k + 1) * 5 - 5 = k * 5 from by omega]
theorem ofF_take (rs : List RFv) (k : Nat) : ofF (rs.take k) = (ofF rs).take k := by simp [ofF, List.map_take]
theorem ofF_drop (rs : List RFv) (k : Nat) : ofF (rs.drop k) = (ofF rs).drop k := by simp [ofF, List.map_drop]
theorem ofF_len (rs : List RFv) : (ofF rs).length = rs.length := by simp [ofF]
theorem ofF_at {rs : List RFv} {i : Nat} {r : RFv} (h : rs[i]? = some r) : (ofF rs)[i]? = some (r.n, r.f) := by simp [ofF, h]
section
variable {w w' : World} {q c : Nat} {σ : St} {M A : Nat → Prop} {fv lv : Value} {rs : List RFv} {r : RFv}
theorem ROk.stay (h : ROk A w r) (hb : ∀ k, A k → k < w.heap.size → w'.heap[k]? = w.heap[k]?) : ROk A w' r := by
  obtain ⟨h1, ⟨ox, h2, h3⟩, h4⟩ := h
  exact ⟨h1.stay hb, ⟨ox, h2.stay hb, h3⟩, h4⟩
theorem ROk.below (h : ROk A w r) (hb : Below w.heap.size w w') : ROk A w' r := h.stay fun k _ hk => hb.block k hk
theorem ROk.mono {A' : Nat → Prop} (h : ROk A w r) (hb : ∀ k, A k → A' k) : ROk A' w r := by
  obtain ⟨h1, ⟨ox, h2, h3⟩, h4⟩ := h
  exact ⟨h1.mono hb, ⟨ox, h2.mono hb, h3⟩, h4⟩
theorem ROk.bys (h : ROk A w r) (hb : Bys w w') : ROk A w' r := by
  obtain ⟨h1, ⟨ox, h2, h3⟩, h4⟩ := h
  exact ⟨⟨hb _ _ _ _ h1.1, h1.2⟩, ⟨ox, ⟨hb _ _ _ _ h2.1, h2.2⟩, h3⟩, h4⟩
end
/-- The reference's store at block q. -/
structure RefIn (w : World) (q : Nat) (σ : St) (c : Nat) (M A : Nat → Prop) (fv lv : Value) (rs : List RFv) : Prop where
  blk : Own 62 w q [.int .i64 σ.lim, fv, lv]
  ok : σ.ok c
  fs : σ.fs = ofF rs
  all : ∀ r ∈ rs, ROk A w r
  row : w.ownsRow 0 75 5 fv rs.length (rCells rs)
  ops : w.ownsRow 0 66 2 lv σ.ops.length (opCells σ.ops)
  mq : M q
  mf : ∀ k, fv.ownBlock = some k → M k
  mo : ∀ k, lv.ownBlock = some k → M k
  ml : ∀ k, M k → k < w.heap.size
  al : ∀ k, A k → k < w.heap.size
def RefAt (w : World) (q : Nat) (σ : St) (c : Nat) (M A : Nat → Prop) : Prop := ∃ fv lv rs, RefIn w q σ c M A fv lv rs
section
variable {w w' : World} {q c : Nat} {σ : St} {M A : Nat → Prop} {fv lv : Value} {rs : List RFv}
theorem RefIn.stay (h : RefIn w q σ c M A fv lv rs) (hs : w.heap.size ≤ w'.heap.size) (hb : ∀ k, M k ∨ A k → w'.heap[k]? = w.heap[k]?) : RefIn w' q σ c M A fv lv rs :=
  ⟨(hb q (.inl h.mq)).trans h.blk, h.ok, h.fs, fun r hr => (h.all r hr).stay fun k hk _ => hb k (.inr hk), own_stay h.row fun k hk => hb k (.inl (h.mf k hk)), own_stay h.ops fun k hk => hb k (.inl (h.mo k hk)), h.mq, h.mf, h.mo,
    fun k hk => Nat.lt_of_lt_of_le (h.ml k hk) hs, fun k hk => Nat.lt_of_lt_of_le (h.al k hk) hs⟩
theorem RefIn.tch {X : Nat → Prop} (h : RefIn w q σ c M A fv lv rs) (ht : Tch X w w') (hX : ∀ k, X k → ¬ M k ∧ ¬ A k) : RefIn w' q σ c M A fv lv rs :=
  h.stay ht.size fun k hk => ht.block k (by rcases hk with hk | hk; exact h.ml k hk; exact h.al k hk) fun hx => by rcases hk with hk | hk; exact (hX k hx).1 hk; exact (hX k hx).2 hk
theorem RefIn.below (h : RefIn w q σ c M A fv lv rs) (hb : Below w.heap.size w w') : RefIn w' q σ c M A fv lv rs := h.tch (Tch.of_below (fun _ => False) hb) fun _ h => h.elim
theorem RefIn.drewN (h : RefIn w q σ c M A fv lv rs) (n : Nat) : RefIn (w.drewN n) q σ c M A fv lv rs := h.stay (Nat.le_refl _) fun _ _ => rfl
theorem RefIn.mono {M' A' : Nat → Prop} {c' : Nat} (h : RefIn w q σ c M A fv lv rs) (hM : ∀ k, M k → M' k) (hA : ∀ k, A k → A' k) (hM' : ∀ k, M' k → k < w.heap.size) (hA' : ∀ k, A' k → k < w.heap.size) (hc : c ≤ c') : RefIn w q σ c' M' A' fv lv rs :=
  ⟨h.blk, h.ok.more hc, h.fs, fun r hr => (h.all r hr).mono hA, h.row, h.ops, hM _ h.mq, fun k e => hM _ (h.mf k e), fun k e => hM _ (h.mo k e), hM', hA'⟩
theorem RefAt.below (h : RefAt w q σ c M A) (hb : Below w.heap.size w w') : RefAt w' q σ c M A := by
  obtain ⟨fv, lv, rs, h⟩ := h
  exact ⟨fv, lv, rs, h.below hb⟩
theorem RefAt.ml (h : RefAt w q σ c M A) : ∀ k, M k → k < w.heap.size := by
  obtain ⟨fv, lv, rs, h⟩ := h
  exact h.ml
theorem RefAt.al (h : RefAt w q σ c M A) : ∀ k, A k → k < w.heap.size := by
  obtain ⟨fv, lv, rs, h⟩ := h
  exact h.al
theorem RefAt.ok (h : RefAt w q σ c M A) : σ.ok c := by
  obtain ⟨fv, lv, rs, h⟩ := h
  exact h.ok
theorem RefAt.mono {M' A' : Nat → Prop} {c' : Nat} (h : RefAt w q σ c M A) (hM : ∀ k, M k → M' k) (hA : ∀ k, A k → A' k) (hM' : ∀ k, M' k → k < w.heap.size) (hA' : ∀ k, A' k → k < w.heap.size) (hc : c ≤ c') : RefAt w q σ c' M' A' := by
  obtain ⟨fv, lv, rs, h⟩ := h
  exact ⟨fv, lv, rs, h.mono hM hA hM' hA' hc⟩
theorem RefAt.tch {X : Nat → Prop} (h : RefAt w q σ c M A) (ht : Tch X w w') (hX : ∀ k, X k → ¬ M k ∧ ¬ A k) : RefAt w' q σ c M A := by
  obtain ⟨fv, lv, rs, h⟩ := h
  exact ⟨fv, lv, rs, h.tch ht hX⟩
/-- A file's cells. -/
theorem RefIn.at_ (h : RefIn w q σ c M A fv lv rs) {k : Nat} {r : RFv} (hr : rs[k]? = some r) :
    ∃ g cap, fv = .slice (some ⟨g, 0, none⟩) rs.length cap ∧ M g ∧ rs.length ≤ cap ∧ cap ≤ maxLen ∧ ∀ j u, (cell5 r)[j]? = some u → w.cell? ⟨g, k * 5 + j, none⟩ = some u := by
  have hk : k < rs.length := (List.getElem?_eq_some_iff.1 hr).1
  obtain ⟨P, cap, rfl, h1, h2, h3⟩ := own_form h.row
  obtain ⟨g, rfl, _, hc⟩ := h3 (by omega)
  refine ⟨g, cap, rfl, h.mf g rfl, h1, h2, fun j u hu => hc _ _ ?_⟩
  have hj : j < 5 := by have := (List.getElem?_eq_some_iff.1 hu).1; simpa [cell5] using this
  rw [rCells_at hr j hj, hu]
end
def RefPost (q : Nat) (σ : St) (c : Nat) (M A : Nat → Prop) (v : Value) (w : World) (e : Ending) (w' : World) : Prop :=
  e = .returned v ∧ RefAt w' q σ c (Grw M w w') (Grw A w w') ∧ Tch M w w'
theorem str_less (a b : Nm) : Op.bytesLess (str a).toList (str b).toList = decide (a < b) := by rw [str_list, str_list, bytesLess_eq]
theorem str_beq (a b : Nm) : ((str a).toList == (str b).toList) = decide (a = b) := by
  rw [str_list, str_list]
  by_cases h : a = b
  · subst h; simp
  · rw [decide_eq_false h]; exact beq_eq_false_iff_ne.2 h
set_option maxRecDepth 100000 in
set_option maxHeartbeats 2000000 in
theorem find_any {w : World} {q c : Nat} {σ : St} {M A : Nat → Prop} (n : Nm) (h : RefAt w q σ c M A) (hc : c ≤ 1000000) :
    Calls Try.prog 33 #[.pointer (some ⟨q, 0, none⟩), .string (str n)] w fun e w' => e = .returned (.tuple #[.int .i64 (posF σ.fs n), .bool (fnd σ.fs n).isSome]) ∧ ∃ nq, w' = w.drewN nq := by
  obtain ⟨fv, lv, rs, h⟩ := h
  have hq1 := h.blk.cell (i := 1) rfl
  have hN : rs.length ≤ 1000000 := by have := h.ok.few; rw [h.fs, ofF_len] at this; omega
  obtain ⟨N, eN⟩ : ∃ N, N = rs.length := ⟨_, rfl⟩
  obtain ⟨Pf, cap, ev, hcap, hcap2, _⟩ := own_form h.row
  subst ev
  have hpl := pos_le σ.fs n
  rw [h.fs, ofF_len] at hpl
  have hsome : (fnd σ.fs n).isSome = true ↔ ∃ r, rs[posF σ.fs n]? = some r ∧ r.n = n := by
    rw [fnd_pos h.ok.rising]
    constructor
    · intro h1
      obtain ⟨f, h2⟩ := Option.isSome_iff_exists.1 h1
      rw [Option.bind_eq_some_iff] at h2
      obtain ⟨p, h3, h4⟩ := h2
      rw [h.fs] at h3
      simp only [ofF, List.getElem?_map, Option.map_eq_some_iff] at h3
      obtain ⟨r, h5, rfl⟩ := h3
      split at h4
      · rename_i h6
        rw [h.fs]
        exact ⟨r, h5, h6⟩
      · cases h4
    · rintro ⟨r, h1, h2⟩
      have h3 : σ.fs[posF σ.fs n]? = some (r.n, r.f) := by rw [h.fs] at h1 ⊢; exact ofF_at h1
      rw [h3]
      simp [h2]
  have hlt : ∀ k r, k < posF σ.fs n → rs[k]? = some r → r.n < n := fun k r h1 h2 => by
    have h3 := ofF_at h2
    rw [← h.fs] at h3
    exact pos_lt h1 h3
  have hat : ∀ r, rs[posF σ.fs n]? = some r → ¬ r.n < n := fun r h2 => by
    have h3 := ofF_at h2
    rw [← h.fs] at h3
    exact pos_at h3
  obtain ⟨p, hp⟩ : ∃ p, p = posF σ.fs n := ⟨_, rfl⟩
  rw [← h.fs, ← hp, ← eN] at hpl
  rw [← hp] at hsome hlt hat ⊢
  rw [← eN] at hq1 hcap hN
  have Hlt := Lib.hid hlt
  have Hat := Lib.hid hat
  have Hsome := Lib.hid hsome
  have H := Lib.hid h
  have EN := Lib.hid eN
  generalize (fnd σ.fs n).isSome = bb at Hsome ⊢
  clear hlt hat hsome h eN hcap2 hp
  go_enter Try.func33, Try.ntmps33
  go_wp2_with fail
  go_loop [6] (fun i => ∃ k : Nat, k ≤ p ∧ i = .int .i64 k) (fun i => p - (intOf i).toNat)
  case atStart => exact ⟨0, by omega, rfl⟩
  case round =>
    obtain ⟨k, hk, rfl⟩ := hrel
    by_cases hkp : k < p
    · have hrk : rs[k]? = some (rs[k]'(by rw [← EN.out]; omega)) := List.getElem?_eq_getElem _
      obtain ⟨g, cap', e, _, _, _, hcs⟩ := H.out.at_ hrk
      injection e with e1 e2 e3
      subst e1
      have h0 := hcs 0 _ rfl
      have hb := str_less (rs[k]'(by rw [← EN.out]; omega)).n n
      rw [decide_eq_true (Hlt.out k _ hkp hrk)] at hb
      generalize (rs[k]'(by rw [← EN.out]; omega)).n = nm at h0 hb
      have h0 : w.cell? ⟨g, k * 5, none⟩ = some (.string (str nm)) := h0
      have d1 : decide (k < N) = true := by simp; omega
      have i0 : (0 : Int) ≤ (k : Int) := by omega
      have i1 : (k : Int) < (N : Int) := by omega
      clear hrk hcs e2 e3
      go_wp2
      go_round
      case rel => exact ⟨k + 1, by omega, by go_num⟩
      case measure => simp [intOf]; omega
    · obtain rfl : k = p := by omega
      by_cases hpN : k < N
      · have hrk : rs[k]? = some (rs[k]'(by rw [← EN.out]; omega)) := List.getElem?_eq_getElem _
        obtain ⟨g, cap', e, _, _, _, hcs⟩ := H.out.at_ hrk
        injection e with e1 e2 e3
        subst e1
        have h0 := hcs 0 _ rfl
        have hb := str_less (rs[k]'(by rw [← EN.out]; omega)).n n
        rw [decide_eq_false (Hat.out _ hrk)] at hb
        have hq := str_beq (rs[k]'(by rw [← EN.out]; omega)).n n
        have hbb : bb = decide ((rs[k]'(by rw [← EN.out]; omega)).n = n) := by
          rw [Bool.eq_iff_iff, Hsome.out, decide_eq_true_eq]
          constructor
          · rintro ⟨r, h1, h2⟩
            rw [hrk] at h1
            injection h1 with h1
            rw [h1, h2]
          · intro h1
            exact ⟨_, hrk, h1⟩
        rw [← hbb] at hq
        generalize (rs[k]'(by rw [← EN.out]; omega)).n = nm at h0 hb hq
        have h0 : w.cell? ⟨g, k * 5, none⟩ = some (.string (str nm)) := h0
        have d1 : decide (k < N) = true := by simp; omega
        have i0 : (0 : Int) ≤ (k : Int) := by omega
        have i1 : (k : Int) < (N : Int) := by omega
        clear hrk hcs e2 e3 hbb
        go_wp2_with fail
        go_quiet (fail)
        go_wp2
        go_ret2
        exact ⟨rfl, _, rfl⟩
      · have hbb : bb = false := by
          cases bb with
          | false => rfl
          | true =>
            obtain ⟨r, h1, _⟩ := Hsome.out.1 rfl
            have := (List.getElem?_eq_some_iff.1 h1).1
            have := EN.out
            omega
        have d1 : decide (k < N) = false := by simp; omega
        subst hbb
        go_wp2_with fail
        go_quiet (fail)
        go_wp2
        go_ret2
        exact ⟨rfl, _, rfl⟩
end Go.Proofs.Ytgkgkekgmcldmaa
