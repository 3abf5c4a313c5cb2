/- A store of the package's in memory. -/
import Derived.Test.YtgkgkekgmcldmaaOwn
import Derived.Test.YtgkgkekgmcldmaaSt0
import Derived.Maps.OwnSet
import Derived.Maps.Ext
import Derived.Sort.Walk0
namespace Go.Proofs.Ytgkgkekgmcldmaa
open Go.RowKit Go.ChangeMaps Go.MapKept

def str (n : Nm) : ByteArray := ⟨n.toArray⟩
theorem str_list (n : Nm) : (str n).toList = n := by rw [Lib.toList_data]; simp [str]
theorem str_size (n : Nm) : (str n).size = n.length := by simp [str, ByteArray.size]
theorem str_of (s : ByteArray) : str s.toList = s := by rw [Lib.toList_data]; cases s; simp [str]
theorem str_data (n : Nm) : (str n).data.toList = n := by simp [str]

/-- A value of a map, by itself. -/
def RV (v : Value) : Option (DataW Value × List MemPlace) := some (.held v, [])
theorem strK : Maps.Keyed Try.prog 9 := Maps.string_keyed Try.underlying9
theorem key_str {n : Nm} (h : n.length ≤ maxLen) : keyOf Try.prog 9 (.string (str n)) = some (.string n) := by
  have := WideMaps.keyOf_string_mk (P := Try.prog) (k := 9) Try.underlying9 (s := str n) (by rw [str_size]; exact h)
  rwa [str_data] at this
/-- The value of a file in a map. -/
def FileV (A : Nat → Prop) (w : World) (v : Value) (f : SF) : Prop := ∃ vn vb, v = .agg #[vn, vb, .int .i64 (f.st : Int)] ∧ FB A w vn f.b ∧ FB A w vb f.old
def MapV (A : Nat → Prop) (w : World) (mv : Value) (fs : Fs) (c : Nat) : Prop :=
  (mv = .map none ∧ fs = []) ∨ ∃ b D k, mv = .map (some b) ∧ w.ownsMap Try.prog 9 RV b k D ∧ k ≤ c ∧ (∀ n, Maps.has D (.string n) = (fnd fs n).isSome) ∧
    ∀ n f, fnd fs n = some f → ∃ v, (∀ z, D.atKey (.string n) z = .held v) ∧ FileV A w v f
def opCells (l : List (Int × Nm)) : List Value := l.flatMap fun p => [.int .i64 p.1, .string (str p.2)]
theorem opCells_snoc (l : List (Int × Nm)) (p : Int × Nm) : opCells (l ++ [p]) = opCells l ++ [.int .i64 p.1, .string (str p.2)] := by simp [opCells]
theorem opCells_len (l : List (Int × Nm)) : (opCells l).length = l.length * 2 := by
  induction l with
  | nil => rfl
  | cons p t ih => unfold opCells at ih ⊢; rw [List.flatMap_cons, List.length_append, ih, List.length_cons]; simp only [List.length_cons, List.length_nil]; omega
theorem opCells_at : ∀ {l : List (Int × Nm)} {i : Nat} {p : Int × Nm}, l[i]? = some p → (opCells l)[i * 2]? = some (.int .i64 p.1) ∧ (opCells l)[i * 2 + 1]? = some (.string (str p.2))
  | p :: t, 0, q, h => by
    simp at h
    subst h
    simp [opCells]
  | p :: t, i + 1, q, h => by
    have := opCells_at (l := t) (i := i) (p := q) (by simpa using h)
    have e : opCells (p :: t) = .int .i64 p.1 :: .string (str p.2) :: opCells t := by simp [opCells]
    rw [e, show (i + 1) * 2 = i * 2 + 1 + 1 from by omega]
    simpa using this
theorem opCells_one (l : List (Int × Nm)) : ∀ u ∈ opCells l, u.oneCell' = true := by
  intro u hu
  simp only [opCells, List.mem_flatMap] at hu
  obtain ⟨p, _, hu⟩ := hu
  simp at hu
  rcases hu with rfl | rfl <;> rfl

def Blk (w : World) (p : Nat) (T : TypeId) (vs : List Value) : Prop := Own T w p vs
/-- A store at block p: M: what it may turn; A: what its files' bytes lie in. -/
structure StoreIn (w : World) (p : Nat) (σ : St) (c : Nat) (M A : Nat → Prop) (mv dv : Value) : Prop where
  blk : Own 59 w p [.int .i64 σ.lim, mv, .int .i64 (usedF σ.fs : Int), dv]
  ok : σ.ok c
  map : MapV A w mv σ.fs c
  ops : w.ownsRow 0 48 2 dv σ.ops.length (opCells σ.ops)
  mp : M p
  mm : ∀ b, mv = .map (some b) → M b
  md : ∀ k, dv.ownBlock = some k → M k
  ml : ∀ k, M k → k < w.heap.size
  al : ∀ k, A k → k < w.heap.size
def StoreAt (w : World) (p : Nat) (σ : St) (c : Nat) (M A : Nat → Prop) : Prop := ∃ mv dv, StoreIn w p σ c M A mv dv

section
variable {w w' : World} {p c : Nat} {σ : St} {M A : Nat → Prop} {mv dv : Value} {fs : Fs}
theorem FileV.stay {v : Value} {f : SF} (h : FileV A w v f) (hb : ∀ k, A k → k < w.heap.size → w'.heap[k]? = w.heap[k]?) : FileV A w' v f := by
  obtain ⟨vn, vb, h1, h2, h3⟩ := h
  exact ⟨vn, vb, h1, h2.stay hb, h3.stay hb⟩
theorem FileV.mono {A' : Nat → Prop} {v : Value} {f : SF} (h : FileV A w v f) (hb : ∀ k, A k → A' k) : FileV A' w v f := by
  obtain ⟨vn, vb, h1, h2, h3⟩ := h
  exact ⟨vn, vb, h1, h2.mono hb, h3.mono hb⟩
theorem map_stay {b k : Nat} {D : DataW Value} (h : w.ownsMap Try.prog 9 RV b k D) (hb : w'.heap[b]? = w.heap[b]?) : w'.ownsMap Try.prog 9 RV b k D := by
  obtain ⟨es, clock, h1, h2⟩ := h
  exact ⟨es, clock, hb.trans h1, h2⟩
theorem MapV.stay (h : MapV A w mv fs c) (hb : ∀ k, A k → k < w.heap.size → w'.heap[k]? = w.heap[k]?) (hm : ∀ b, mv = .map (some b) → w'.heap[b]? = w.heap[b]?) : MapV A w' mv fs c := by
  rcases h with h | ⟨b, D, k, rfl, h1, h2, h3, h4⟩
  · exact .inl h
  · exact .inr ⟨b, D, k, rfl, map_stay h1 (hm b rfl), h2, h3, fun n f hf => by obtain ⟨v, h5, h6⟩ := h4 n f hf; exact ⟨v, h5, h6.stay hb⟩⟩
theorem MapV.mono {A' : Nat → Prop} {c' : Nat} (h : MapV A w mv fs c) (hb : ∀ k, A k → A' k) (hc : c ≤ c') : MapV A' w mv fs c' := by
  rcases h with h | ⟨b, D, k, rfl, h1, h2, h3, h4⟩
  · exact .inl h
  · exact .inr ⟨b, D, k, rfl, h1, Nat.le_trans h2 hc, h3, fun n f hf => by obtain ⟨v, h5, h6⟩ := h4 n f hf; exact ⟨v, h5, h6.mono hb⟩⟩
theorem StoreIn.stay (h : StoreIn w p σ c M A mv dv) (hs : w.heap.size ≤ w'.heap.size) (hb : ∀ k, M k ∨ A k → w'.heap[k]? = w.heap[k]?) : StoreIn w' p σ c M A mv dv :=
  ⟨(hb p (.inl h.mp)).trans h.blk, h.ok, h.map.stay (fun k hk _ => hb k (.inr hk)) (fun b e => hb b (.inl (h.mm b e))), own_stay h.ops (fun k hk => hb k (.inl (h.md k hk))), h.mp, h.mm, h.md, fun k hk => Nat.lt_of_lt_of_le (h.ml k hk) hs, fun k hk => Nat.lt_of_lt_of_le (h.al k hk) hs⟩
theorem StoreIn.tch {X : Nat → Prop} (h : StoreIn w p σ c M A mv dv) (ht : Tch X w w') (hX : ∀ k, X k → ¬ M k ∧ ¬ A k) : StoreIn w' p σ c M A mv dv :=
  h.stay ht.size fun k hk => ht.block k (by rcases hk with hk | hk; exact h.ml k hk; exact h.al k hk) fun hx => by rcases hk with hk | hk; exact (hX k hx).1 hk; exact (hX k hx).2 hk
theorem StoreIn.mono {M' A' : Nat → Prop} {c' : Nat} (h : StoreIn w p σ c M A mv dv) (hM : ∀ k, M k → M' k) (hA : ∀ k, A k → A' k) (hM' : ∀ k, M' k → k < w.heap.size) (hA' : ∀ k, A' k → k < w.heap.size) (hc : c ≤ c') : StoreIn w p σ c' M' A' mv dv :=
  ⟨h.blk, h.ok.more hc, h.map.mono hA hc, h.ops, hM _ h.mp, fun b e => hM _ (h.mm b e), fun k e => hM _ (h.md k e), hM', hA'⟩
theorem StoreIn.below (h : StoreIn w p σ c M A mv dv) (hb : Below w.heap.size w w') : StoreIn w' p σ c M A mv dv :=
  h.tch (Tch.of_below (fun _ => False) hb) (fun _ h => h.elim)
theorem StoreIn.drewN (h : StoreIn w p σ c M A mv dv) (n : Nat) : StoreIn (w.drewN n) p σ c M A mv dv := h.stay (Nat.le_refl _) (fun _ _ => rfl)
theorem StoreIn.grw {X : Nat → Prop} (h : StoreIn w' p σ c M A mv dv) (hM : ∀ k, M k → Grw X w w' k) {Y : Nat → Prop} (hA : ∀ k, A k → Grw Y w w' k) {c' : Nat} (hc : c ≤ c') (hX : ∀ k, X k → k < w'.heap.size) (hY : ∀ k, Y k → k < w'.heap.size) :
    StoreIn w' p σ c' (Grw X w w') (Grw Y w w') mv dv :=
  h.mono hM hA (fun k hk => by rcases hk with hk | hk; exact hX k hk; exact hk.2) (fun k hk => by rcases hk with hk | hk; exact hY k hk; exact hk.2) hc
end
/-- What a call that changes the store leaves. -/
def OpPost (p : Nat) (σ : St) (c : Nat) (M A : Nat → Prop) (v : Value) (w : World) (e : Ending) (w' : World) : Prop :=
  e = .returned v ∧ StoreAt w' p σ c (Grw M w w') (Grw A w w') ∧ Tch M w w'

/-! ### Look-ups -/
theorem zero_file (w : World) : (zeroValue 69).run Try.prog w = .ok (.agg #[.slice none 0 0, .slice none 0 0, .int .i64 0]) w := by kernel_rfl
/-- What a look-up without 'ok' tells. -/
def LookV (A : Nat → Prop) (w : World) (v : Value) (o : Option SF) : Prop := match o with | none => v = .agg #[.slice none 0 0, .slice none 0 0, .int .i64 0] | some f => FileV A w v f
def valF (o : Option SF) : SF := o.getD ⟨[], 0, []⟩
theorem LookV.file {A : Nat → Prop} {w : World} {v : Value} {o : Option SF} (h : LookV A w v o) : FileV A w v (valF o) := by
  cases o with
  | none => exact ⟨_, _, h, FB.nil _ _, FB.nil _ _⟩
  | some f => exact h
theorem held_inj {x y : Value} {qs : List MemPlace} (h : RV x = some (.held y, qs)) : x = y := by
  unfold RV at h
  injection h with h
  injection h with h _
  injection h
theorem look_any {A : Nat → Prop} {w : World} {mv : Value} {fs : Fs} {c : Nat} (h : MapV A w mv fs c) {n : Nm} (hn : n.length ≤ maxLen) :
    ∃ v, LookV A w v (fnd fs n) ∧ (Instr.lookup 54 mv (.string (str n)) false).run Try.prog w = .ok v w ∧ (Instr.lookup 54 mv (.string (str n)) true).run Try.prog w = .ok (.tuple #[v, .bool (fnd fs n).isSome]) w := by
  have hk := key_str hn
  rcases h with ⟨rfl, rfl⟩ | ⟨b, D, k, rfl, h1, _, h3, h4⟩
  · exact ⟨_, rfl, Maps.look_nil false strK Try.underlying54 (zero_file w) hk, Maps.look_nil true strK Try.underlying54 (zero_file w) hk⟩
  · obtain ⟨v, _, r1, r2⟩ := h1.lookup strK Try.underlying54 (zero_file w) (zd := .held (.agg #[.slice none 0 0, .slice none 0 0, .int .i64 0])) (zp := []) rfl hk
    obtain ⟨v', _, r3, r4⟩ := h1.look_ok strK Try.underlying54 (zero_file w) (zd := .held (.agg #[.slice none 0 0, .slice none 0 0, .int .i64 0])) (zp := []) rfl hk
    rw [h3 n] at r3
    have hat : ∃ u, LookV A w u (fnd fs n) ∧ D.atKey (.string n) (.held (.agg #[.slice none 0 0, .slice none 0 0, .int .i64 0])) = .held u := by
      cases hf : fnd fs n with
      | none =>
        have h5 := h3 n
        rw [hf] at h5
        exact ⟨_, rfl, Maps.atKey_of_not_has h5 _⟩
      | some f =>
        obtain ⟨u, h5, h6⟩ := h4 n f hf
        exact ⟨u, h6, h5 _⟩
    obtain ⟨u, hu, hat⟩ := hat
    rw [hat] at r2 r4
    rw [held_inj r2] at r1
    rw [held_inj r4] at r3
    exact ⟨u, hu, r1, r3⟩
/-! ### Stores, deletions -/
/-- Rows of bytes stay. -/
def Bys (w w' : World) : Prop := ∀ b n v xs, w.ownsRow b 5 1 v n xs → w'.ownsRow b 5 1 v n xs
theorem Bys.refl (w : World) : Bys w w := fun _ _ _ _ h => h
theorem Bys.trans {a b c : World} (h : Bys a b) (k : Bys b c) : Bys a c := fun _ _ _ _ hh => k _ _ _ _ (h _ _ _ _ hh)
theorem Bys.file {A : Nat → Prop} {w w' : World} {v : Value} {f : SF} (hb : Bys w w') (h : FileV A w v f) : FileV A w' v f := by
  obtain ⟨vn, vb, h1, h2, h3⟩ := h
  exact ⟨vn, vb, h1, ⟨hb _ _ _ _ h2.1, h2.2⟩, ⟨hb _ _ _ _ h3.1, h3.2⟩⟩
theorem row_ne_map {w : World} {b k bs n s : Nat} {e : TypeId} {v : Value} {xs : List Value} {D : DataW Value} (h : w.ownsRow bs e s v n xs) (hm : w.ownsMap Try.prog 9 RV b k D) : ∀ j, v.ownBlock = some j → j ≠ b := by
  intro j hj e1
  subst e1
  obtain ⟨es, clock, h1, _⟩ := hm
  rcases h.2 with ⟨rfl, _⟩ | ⟨g2, cap, cur, rfl, _, hh, _⟩
  · simp [Value.ownBlock] at hj
  · simp only [Value.ownBlock, Option.some.injEq] at hj
    subst hj
    rw [h1] at hh
    injection hh with hh
    cases hh
theorem own_map {w w' : World} {b k bs n s : Nat} {e : TypeId} {v : Value} {xs : List Value} {D : DataW Value} (h : w.ownsRow bs e s v n xs) (hm : w.ownsMap Try.prog 9 RV b k D) (hg : w.grownBy w' (some b)) : w'.ownsRow bs e s v n xs :=
  own_stay h fun j hj => hg.block j (h.lt j hj).2 fun e => row_ne_map h hm j hj (by injection e)
theorem FB.map {A : Nat → Prop} {w w' : World} {b k : Nat} {v : Value} {xs : List Int} {D : DataW Value} (h : FB A w v xs) (hm : w.ownsMap Try.prog 9 RV b k D) (hg : w.grownBy w' (some b)) : FB A w' v xs := ⟨own_map h.1 hm hg, h.2⟩
theorem FileV.map {A : Nat → Prop} {w w' : World} {b k : Nat} {v : Value} {f : SF} {D : DataW Value} (h : FileV A w v f) (hm : w.ownsMap Try.prog 9 RV b k D) (hg : w.grownBy w' (some b)) : FileV A w' v f := by
  obtain ⟨vn, vb, h1, h2, h3⟩ := h
  exact ⟨vn, vb, h1, h2.map hm hg, h3.map hm hg⟩
theorem keeps_map {w w' : World} {b k : Nat} {D : DataW Value} (hm : w.ownsMap Try.prog 9 RV b k D) (hg : w.grownBy w' (some b)) : Keeps w w' := by
  intro p v hp
  refine hg.cell hp fun e => ?_
  injection e with e
  obtain ⟨es, clock, h1, _⟩ := hm
  rw [← e] at h1
  simp [World.cell?, h1] at hp
theorem own_blk_map {T : TypeId} {w w' : World} {b k g : Nat} {vs : List Value} {D : DataW Value} (h : Own T w g vs) (hm : w.ownsMap Try.prog 9 RV b k D) (hg : w.grownBy w' (some b)) : Own T w' g vs :=
  (hg.block g h.lt fun e => by
    injection e with e
    obtain ⟨es, clock, h1, _⟩ := hm
    subst e
    unfold Own at h
    rw [h1] at h
    injection h with h
    cases h).trans h
theorem mapUpd {A : Nat → Prop} {w : World} {b : Nat} {fs : Fs} {c : Nat} (h : MapV A w (.map (some b)) fs c) {n : Nm} (hn : n.length ≤ maxLen) (hc : c ≤ 1000000) {v : Value} {f : SF} (hv : FileV A w v f) :
    ∃ w', (Instr.mapUpdate 54 (.map (some b)) (.string (str n)) v).run Try.prog w = .ok () w' ∧ MapV A w' (.map (some b)) (putF fs n f) (c + 1) ∧ w.grownBy w' (some b) ∧ w'.heap.size = w.heap.size := by
  have hk := key_str hn
  rcases h with ⟨h, _⟩ | ⟨b', D, k, e, h1, h2, h3, h4⟩
  · cases h
  · injection e with e
    injection e with e
    subst e
    obtain ⟨w', r1, r2, r3⟩ := h1.store strK Try.underlying54 (by simp [maxLen]; omega) hk (val := v) (d := .held v) (ps := []) rfl
    have hM := h1.isMap
    have hl : WideAt.IsKeyLit (.string n) := strK.key hk
    refine ⟨w', r1, .inr ⟨b, _, k + 1, rfl, r2, by omega, fun m => ?_, fun m g hg => ?_⟩, r3.grown, ?_⟩
    · by_cases e : m = n
      · subst e
        rw [Maps.has_put_same hM hl, fnd_put_same]; rfl
      · rw [Maps.has_put_other (by intro h; injection h with h; exact e h), fnd_put_other _ _ e]; exact h3 m
    · by_cases e : m = n
      · subst e
        rw [fnd_put_same] at hg
        injection hg with hg
        subst hg
        exact ⟨v, fun z => Maps.atKey_put_same hM hl _ _, hv.map h1 r3.grown⟩
      · rw [fnd_put_other _ _ e] at hg
        obtain ⟨u, h5, h6⟩ := h4 m g hg
        exact ⟨u, fun z => by rw [Maps.atKey_put_other (by intro h; injection h with h; exact e h)]; exact h5 z, h6.map h1 r3.grown⟩
    · obtain ⟨es, cl, es', cl', hh, rfl⟩ := r3
      simp [setBlock]
theorem mapDel {A : Nat → Prop} {w : World} {mv : Value} {fs : Fs} {c : Nat} (h : MapV A w mv fs c) (hr : Rising fs) {n : Nm} (hn : n.length ≤ maxLen) (ty : TypeId) :
    ∃ w', (Builtin.delete_ #[54, 9] ty #[mv, .string (str n)]).run Try.prog w = .ok (.tuple #[]) w' ∧ MapV A w' mv (dropF fs n) c ∧ w'.heap.size = w.heap.size ∧ Tch (fun k => mv = .map (some k)) w w' ∧ Bys w w' := by
  have hk := key_str hn
  rcases h with ⟨rfl, rfl⟩ | ⟨b, D, k, rfl, h1, h2, h3, h4⟩
  · exact ⟨w, Maps.drop_nil strK Try.underlying54 hk ty, .inl ⟨rfl, rfl⟩, rfl, Tch.refl _ _, Bys.refl _⟩
  · obtain ⟨w', r1, r2, r3⟩ := h1.drop strK Try.underlying54 hk ty
    refine ⟨w', r1, .inr ⟨b, _, k, rfl, r2, h2, fun m => ?_, fun m g hg => ?_⟩, ?_, Tch.of_grown r3.grown fun k e => congrArg Value.map e, fun b n v xs h => own_map h h1 r3.grown⟩
    · by_cases e : m = n
      · subst e
        rw [Maps.has_del_same, fnd_drop_same _ hr]; rfl
      · rw [Maps.has_del_other (by intro h; injection h with h; exact e h), fnd_drop_other _ e]; exact h3 m
    · by_cases e : m = n
      · subst e
        rw [fnd_drop_same _ hr] at hg
        cases hg
      · rw [fnd_drop_other _ e] at hg
        obtain ⟨u, h5, h6⟩ := h4 m g hg
        exact ⟨u, fun z => by rw [Maps.atKey_del_other (by intro h; injection h with h; exact e h)]; exact h5 z, h6.map h1 r3.grown⟩
    · obtain ⟨es, cl, es', cl', hh, rfl⟩ := r3
      simp [setBlock]
/-- A map that was just made. -/
theorem mapNew (A : Nat → Prop) (w : World) (c : Nat) : MapV A (w.alloc (.map #[] 0)) (.map (some w.heap.size)) [] c :=
  .inr ⟨w.heap.size, .map [], 0, rfl, World.ownsMap_made _ _ _ _, Nat.zero_le _, fun n => rfl, fun n f h => by cases h⟩
/-! ### All names -/
theorem names_eq {w : World} {b k : Nat} {D : DataW Value} {fs : Fs} (h1 : w.ownsMap Try.prog 9 RV b k D) (h3 : ∀ n, Maps.has D (.string n) = (fnd fs n).isSome) (hr : Rising fs) {ss : List Nm} (hs : ss.Perm (strKeys D)) :
    ss.mergeSort (fun x y => decide (x ≤ y)) = fs.map (·.1) := by
  have hmem : ∀ x, x ∈ fs.map (·.1) ↔ (fnd fs x).isSome = true := fun x => by
    rw [List.mem_map]
    constructor
    · rintro ⟨p, hp, rfl⟩
      rw [fnd_of_mem (f := p.2) hr hp]; rfl
    · intro h
      obtain ⟨f, hf⟩ := Option.isSome_iff_exists.1 h
      exact ⟨_, fnd_mem hf, rfl⟩
  have hsorted : (fs.map (·.1)).Pairwise (fun a b => a < b) := List.pairwise_map.2 hr
  have hnd : (fs.map (·.1)).Nodup := hsorted.imp fun h => nm_ne h
  obtain ⟨es, hD, hpw, hko⟩ := h1.canon strK
  have hpw' : es.Pairwise (fun p q => p.1 ≠ q.1) := Maps.apart_of_rising hpw
  have hstr : ∀ p ∈ es, ∃ x, p.1 = .string x := by
    obtain ⟨es', hD', hk'⟩ := h1.keysOf
    have e : es = es' := by rw [hD] at hD'; injection hD'
    subst e
    intro p hp
    obtain ⟨v, hv⟩ := hk' p hp
    obtain ⟨x, _, hx, _⟩ := Maps.keyOf_str Try.underlying9 hv
    exact ⟨x, hx⟩
  have hp : (fs.map (·.1)).Perm (strKeys D) := by
    subst hD
    exact perm_strKeys hpw' hstr hnd fun x => by rw [hmem x, h3 x]
  rw [show (fun x y : List UInt8 => decide (x ≤ y)) = leB from rfl, mergeSort_of_perm (hs.trans hp.symm)]
  exact List.mergeSort_of_pairwise (hsorted.imp fun h => by simp only [leB, decide_eq_true_eq]; exact List.not_lt.1 (nm_asymm h))
end Go.Proofs.Ytgkgkekgmcldmaa
