/- Package runs: what stands while pieces are dealt out. -/
import Derived.Test.YtmolfcccfekcpaaMapK
import Derived.Test.YtmolfcccfekcpaaColl
namespace Go.Proofs.Ytmolfcccfekcpaa
open Go.RowKit Go.Shelf
/-- No block of numbers. -/
def NotInt (X : World) (k : Nat) : Prop := ∀ cs p, X.heap[k]? ≠ some (.cells cs 3 p)
theorem OI.tchN {B : Nat} {X Y : World} {M : Nat → Prop} {v : Value} {xs : List Int} (h : OI B X v xs) (ht : Tch M X Y) (hM : ∀ k, M k → NotInt X k) : OI B Y v xs := by
  refine ⟨own_stay h.1 fun k hk => ht.block k (h.1.lt k hk).2 fun e => ?_, h.2⟩
  rcases h.1.2 with ⟨rfl, _⟩ | ⟨g', cap, cur, rfl, _, hh, _⟩
  · simp [Value.ownBlock] at hk
  · simp only [Value.ownBlock, Option.some.injEq] at hk
    subst hk
    exact hM _ e _ _ hh
/-- Cells that read as they did of old, or whose slices are the call's own. -/
def RdO (w0 : World) (B : Nat) (X : World) (us : List V5) (H : List Cel) : Prop := us.length = H.length ∧ ∀ (i : Nat) u x, us[i]? = some u → H[i]? = some x → Reads w0 u x ∨ OwnC B X u x
section
variable {w0 X Y : World} {B B' : Nat} {us : List V5} {H : List Cel} {M : Nat → Prop}
theorem RdO.nil : RdO w0 B X [] [] := ⟨rfl, fun i u x h => by simp at h⟩
theorem RdO.tchN (h : RdO w0 B X us H) (ht : Tch M X Y) (hM : ∀ k, M k → NotInt X k) : RdO w0 B Y us H := ⟨h.1, fun i u x hu hx => (h.2 i u x hu hx).imp id fun o => o.stay fun q => q.tchN ht hM⟩
theorem RdO.below (h : RdO w0 B X us H) (hb : Below X.heap.size X Y) : RdO w0 B Y us H := h.tchN (M := fun _ => False) (Tch.of_below _ hb) fun _ hk => hk.elim
theorem RdO.mono (h : RdO w0 B X us H) (hb : B' ≤ B) : RdO w0 B' X us H := ⟨h.1, fun i u x hu hx => (h.2 i u x hu hx).imp id fun o => o.stay fun q => q.mono hb⟩
theorem RdO.reads (h : RdO w0 B X us H) (hb : Below w0.heap.size w0 X) : ReadsL X us H := ⟨h.1, fun i u x hu hx => by
  rcases h.2 i u x hu hx with h | h
  · exact h.keep (Keeps.of_below hb)
  · exact h.reads⟩
theorem RdO.set (h : RdO w0 B X us H) {i : Nat} {v : V5} {y : Cel} (hv : Reads w0 v y ∨ OwnC B X v y) : RdO w0 B X (us.set i v) (H.set i y) := ⟨by rw [List.length_set, List.length_set, h.1], fun j u x hu hx => by
  rw [List.getElem?_set] at hu hx
  by_cases e : i = j
  · subst e
    rw [if_pos rfl] at hu hx
    split at hu
    · split at hx
      · injection hu with hu; injection hx with hx
        subst hu hx
        exact hv
      · cases hx
    · cases hu
  · rw [if_neg e] at hu hx
    exact h.2 j u x hu hx⟩
theorem RdO.snoc (h : RdO w0 B X us H) {v : V5} {y : Cel} (hv : Reads w0 v y ∨ OwnC B X v y) : RdO w0 B X (us ++ [v]) (H ++ [y]) := ⟨by rw [List.length_append, List.length_append, h.1]; rfl, fun i u x hu hx => by
  rcases Nat.lt_or_ge i us.length with hi | hi
  · rw [List.getElem?_append_left hi] at hu
    rw [List.getElem?_append_left (by rw [← h.1]; exact hi)] at hx
    exact h.2 i u x hu hx
  · rw [List.getElem?_append_right hi] at hu
    rw [List.getElem?_append_right (by rw [← h.1]; exact hi), ← h.1] at hx
    have e0 : i - us.length = 0 := by
      rcases Nat.eq_zero_or_pos (i - us.length) with h | h
      · exact h
      · rw [List.getElem?_eq_none (by simp; omega)] at hu; cases hu
    rw [e0] at hu hx
    simp only [List.getElem?_cons_zero, Option.some.injEq] at hu hx
    subst hu hx
    exact hv⟩
end
/-- Cells that may be dealt out. -/
def GoodC (me : Nat) (x : Cel) : Prop := OkV x.key ∧ x.key.length ≤ 1000 ∧ EvenC me x ∧ inK .i64 x.cnt
theorem GoodC.join {me : Nat} {a b : Cel} (ha : GoodC me a) (hb : GoodC me b) : GoodC me (join2 a b) := ⟨ha.1, ha.2.1, join2_even ha.2.2.1 hb.2.2.1, join2_ok⟩
theorem deal_len {m K : Nat} : ∀ (l : List Cel) (s : List (List Cel) × List Cel), (∀ p ∈ s.1, p.length ≤ K) → s.2.length + l.length ≤ K → (∀ p ∈ (l.foldl (dealS m) s).1, p.length ≤ K) ∧ (l.foldl (dealS m) s).2.length ≤ K
  | [], s, h1, h2 => ⟨h1, by simpa using h2⟩
  | c :: l, s, h1, h2 => by
    rw [List.foldl_cons]
    rw [List.length_cons] at h2
    refine deal_len l _ ?_ ?_ <;> unfold dealS
    · split
      · exact h1
      · split
        · intro p hp
          rcases List.mem_append.1 hp with hp | hp
          · exact h1 p hp
          · rw [List.mem_singleton] at hp
            subst hp
            omega
        · exact h1
    · split
      · rw [List.length_set]; omega
      · split
        · simp; omega
        · rw [List.length_append]; simp; omega
theorem deal_held {m me : Nat} (hm : 1 ≤ m) {L : List Cel} {Ps : List (List Cel)} {H : List Cel} (h : L.foldl (dealS m) ([], []) = (Ps, H)) (hg : ∀ c ∈ L, GoodC me c) (hl : L.length ≤ 60) : (∀ c ∈ H, GoodC me c) ∧ Apart H ∧ H.length ≤ 60 := by
  have h1 := deal_all (m := m) (Q := GoodC me) (fun a b => GoodC.join) L ([], []) hg (fun p hp => by cases hp) (fun c hc => by cases hc)
  have h2 := deal_apart (m := m) L ([], []) (fun p hp => by cases hp) List.Pairwise.nil hm
  have h3 := deal_len (m := m) (K := 60) L ([], []) (fun p hp => by cases hp) (by simpa using hl)
  rw [h] at h1 h2 h3
  exact ⟨h1.2, h2.2, h3.2⟩
/-- A piece: its row, its cells as they stand there, as they read. -/
abbrev PX := Value × List V5 × List Cel
/-- What is known of a piece that goes out. -/
structure PieceR (w0 : World) (B me K : Nat) (okp : Nat → Prop) (x : PX) (W : World) : Prop where
  row : W.ownsRow B 44 5 x.1 x.2.1.length (flatV x.2.1)
  rd : RdO w0 B W x.2.1 x.2.2
  okr : ∀ k, x.1.ownBlock = some k → okp k
  good : ∀ c ∈ x.2.2, GoodC me c
  apart : Apart x.2.2
  ne : x.2.2 ≠ []
  len : x.2.2.length ≤ K
section
variable {σ : Type} {J : List PX → σ → World → Prop} {ok : σ → Nat → Prop} {w0 : World} {z b4 b5 b6 mo : Nat} {yv : Value} {s : σ} {Ps : List PX} {hv : Value} {hus : List V5} {H : List Cel} {X Y : World} {M : Nat → Prop}
theorem notint_of {X : World} {k : Nat} {o : Obj} (h : X.heap[k]? = some o) (hc : o.isCells = false) : NotInt X k := fun cs p e => by
  rw [h] at e
  injection e with e
  subst e
  cases hc
theorem notint_own {T : TypeId} {X : World} {k : Nat} {vs : List Value} (h : Own T X k vs) (hT : T ≠ 3) : NotInt X k := fun cs p e => by
  unfold Own at h
  rw [h] at e
  injection e with e
  injection e with _ e2
  exact hT e2
theorem notint_row {B n : Nat} {T : TypeId} {sz : Nat} {X : World} {k : Nat} {v : Value} {xs : List Value} (h : X.ownsRow B T sz v n xs) (hk : v.ownBlock = some k) (hT : T ≠ 3) : NotInt X k := fun cs p e => by
  rcases h.2 with ⟨rfl, _⟩ | ⟨g', cap, cur, rfl, _, hh, _⟩
  · simp [Value.ownBlock] at hk
  · simp only [Value.ownBlock, Option.some.injEq] at hk
    subst hk
    rw [hh] at e
    injection e with e
    injection e with _ e2
    exact hT e2
/-- One more cell behind what is held: the row as it grows. -/
theorem append_row5 {B : Nat} {X : World} {v : Value} {us : List V5} {u : V5} (ho : X.ownsRow B 44 5 v us.length (flatV us)) (h1 : ∀ w ∈ u.l, w.oneCell' = true) (hl : us.length + 1 ≤ 1000000) (hB : B ≤ X.heap.size) :
    ∃ v' Y, (Builtin.append_ #[31, 31] 31 #[v, .slice (some ⟨X.heap.size, 0, none⟩) 1 1]).run Try.prog (X.alloc (.cells #[u.a, u.b, u.c, u.d, u.e] 44)) = .ok v' Y ∧ Y.ownsRow B 44 5 v' (us ++ [u]).length (flatV (us ++ [u])) ∧ Tch (fun k => v.ownBlock = some k) X Y ∧ (∀ k, v'.ownBlock = some k → v.ownBlock = some k ∨ X.heap.size ≤ k) := by
  have hb : Below X.heap.size X (X.alloc (.cells #[u.a, u.b, u.c, u.d, u.e] 44)) := (Below.refl _ _).alloc (Nat.le_refl _) _
  obtain ⟨i0, hi, hz0, hz1, hz2⟩ := info_parts infoC
  have ho2 := own_below ho hb (Nat.le_refl _)
  obtain ⟨v', Y, hrun, hr, hg, -, hbl⟩ := run_append_own_at (P := Try.prog) (X.alloc (.cells #[u.a, u.b, u.c, u.d, u.e] 44)) B 31 31 44 i0 _ 5 104 Try.underlying31 hi hz0 hz1 hz2 rfl (by omega) v us.length (flatV us) ho2 ⟨X.heap.size, 0, none⟩ 1 1 (flatV [u]) (by simp [flatV, V5.l])
    (fun j w hw => by
      rw [add0, show (X.alloc (.cells #[u.a, u.b, u.c, u.d, u.e] 44)).cell? ⟨X.heap.size, j, none⟩ = #[u.a, u.b, u.c, u.d, u.e][j]? from cell_of_row _ _ _ _ 44 (0, 0) (heap_alloc_new X _)]
      rw [flatV_one] at hw
      simpa [V5.l] using hw) (by rw [flatV_one]; exact h1) (by simp only [maxLen]; omega) (by omega) (by simp; omega)
  refine ⟨v', Y, hrun, ?_, ?_, fun k hk => ?_⟩
  · rw [List.length_append, flatV_append]
    exact hr
  · exact (Tch.of_below _ hb).same (Tch.of_grown hg fun k e => e)
  · rcases hbl with e | e
    · exact .inl (by rw [← e, hk])
    · rw [e] at hk
      injection hk with hk
      right
      rw [← hk]; simp
theorem tch_setF (W : World) (g i : Nat) (q : V5) : Tch (fun k => k = g) W (setF W g i q) := by
  unfold setF
  exact Tch.of_only (((((Only.refl g W).setCell _ _).setCell _ _).setCell _ _).setCell _ _ |>.setCell _ _) rfl
end
end Go.Proofs.Ytmolfcccfekcpaa
