/- Package store's files: what a write makes of one, what a crash leaves of it. -/
import Derived.Test.YtgkgkekgmcldmaaSt2
namespace Go.Proofs.Ytgkgkekgmcldmaa
open Go.RowKit
theorem boxes2 {w w1 : World} {X Y : List Value} {T T' : TypeId} (h : Below ((w.alloc (.cells X.toArray T)).alloc (.cells Y.toArray T')).heap.size ((w.alloc (.cells X.toArray T)).alloc (.cells Y.toArray T')) w1) :
    Own T w1 w.heap.size X ∧ Own T' w1 (w.heap.size + 1) Y ∧ Below w.heap.size w w1 ∧ w.heap.size + 2 ≤ w1.heap.size := by
  have h1 : Own T (w.alloc (.cells X.toArray T)) w.heap.size X := heap_alloc_new w _
  have h2 : Own T' ((w.alloc (.cells X.toArray T)).alloc (.cells Y.toArray T')) (w.heap.size + 1) Y := by
    have := heap_alloc_new (w.alloc (.cells X.toArray T)) (.cells Y.toArray T')
    simpa [Own] using this
  have h3 := h.size
  simp at h3
  exact ⟨(h1.alloc _).below h (by simp; omega), h2.below h (by simp), (((Below.refl _ w).alloc (Nat.le_refl _) _).alloc (by simp) _).trans (h.mono (by simp; omega)), h3⟩
theorem FB.slice {A : Nat → Prop} {w : World} {v : Value} {xs : List Int} (h : FB A w v xs) : ∃ P n c, v = .slice P n c := by
  obtain ⟨P, c, hv, _⟩ := own_form h.1
  exact ⟨P, _, c, hv⟩
theorem FB.new {A : Nat → Prop} {w w' : World} {v : Value} {xs : List Int} {n : Nat} (h : w'.ownsRow w.heap.size 5 1 v n (byts xs)) (hn : xs.length = n) : FB (Grw A w w') w' v xs :=
  ⟨own_mono (hn ▸ h) (Nat.zero_le _), fun k hk => .inr (h.lt k hk)⟩
theorem FB.below {A : Nat → Prop} {w w' : World} {v : Value} {xs : List Int} (h : FB A w v xs) (hb : Below w.heap.size w w') : FB A w' v xs := h.stay fun k _ hk => hb.block k hk
theorem FileV.below {A : Nat → Prop} {w w' : World} {v : Value} {f : SF} (h : FileV A w v f) (hb : Below w.heap.size w w') : FileV A w' v f := h.stay fun k _ hk => hb.block k hk
theorem FB.grw {A : Nat → Prop} {w w' : World} {v : Value} {xs : List Int} (h : FB A w' v xs) : FB (Grw A w w') w' v xs := h.mono fun _ hk => .inl hk
theorem grw_mono {A : Nat → Prop} {w w1 w' : World} {k : Nat} (h1 : w.heap.size ≤ w1.heap.size) (h : Grw A w1 w' k) : Grw A w w' k := by
  rcases h with h | ⟨h2, h3⟩
  · exact .inl h
  · exact .inr ⟨by omega, h3⟩
theorem wrF_valF (o : Option SF) (b : List Int) : wrF (some (valF o)) b = wrF o b := by cases o <;> rfl
theorem valF_ok {o : Option SF} (h : ∀ f, o = some f → f.ok) : (valF o).ok := by
  cases o with
  | none => exact ⟨by simp [valF], by simp [valF], by simp [valF], by simp [valF]⟩
  | some f => exact h f rfl
/-- Block g is a row of cells of type T. -/
def Ty (w : World) (g : Nat) (T : TypeId) : Prop := ∃ cur fr, w.heap[g]? = some (.cells cur T fr)
theorem Ty.of {w : World} {g : Nat} {T : TypeId} {vs : List Value} (h : Own T w g vs) : Ty w g T := ⟨_, _, h⟩
theorem Ty.set {w : World} {g : Nat} {T : TypeId} (h : Ty w g T) (p : Addr) (u : Value) : Ty (w.setCell p u) g T := by
  obtain ⟨cur, fr, h⟩ := h
  by_cases e : g = p.block
  · subst e
    unfold Ty
    simp only [World.setCell, Array.getElem?_modify, h, if_true, Option.map_some]
    exact ⟨_, _, rfl⟩
  · exact ⟨cur, fr, (Below.heap_setCell _ _ _ _ e).trans h⟩
/-- Rows stay where something of another type is written. -/
theorem own_set {w : World} {b g : Nat} {e T : TypeId} {s n : Nat} {v : Value} {xs : List Value} (h : w.ownsRow b e s v n xs) (ho : Ty w g T) (hT : T ≠ e) (i : Nat) (u : Value) : (w.setCell ⟨g, i, none⟩ u).ownsRow b e s v n xs :=
  own_stay h fun k hk => Below.heap_setCell _ _ _ _ fun e1 => by
    obtain ⟨cur', fr', ho⟩ := ho
    rcases h.2 with ⟨rfl, _⟩ | ⟨g2, cap, cur, rfl, _, hh, _⟩
    · simp [Value.ownBlock] at hk
    · simp only [Value.ownBlock, Option.some.injEq] at hk
      subst hk
      have e1 : g2 = g := e1
      subst e1
      rw [hh] at ho
      injection ho with ho
      injection ho with _ h2
      exact hT h2.symm
theorem FB.set {A : Nat → Prop} {w : World} {v : Value} {xs : List Int} {g : Nat} {T : TypeId} (h : FB A w v xs) (ho : Ty w g T) (hT : T ≠ 5) (i : Nat) (u : Value) : FB A (w.setCell ⟨g, i, none⟩ u) v xs := ⟨own_set h.1 ho hT i u, h.2⟩
theorem grw_set (A : Nat → Prop) (w w1 : World) (p : Addr) (u : Value) : Grw A w (w1.setCell p u) = Grw A w w1 := by
  funext k
  unfold Grw
  simp [World.setCell]
theorem fileV_mk {A : Nat → Prop} {w : World} {vn vb : Value} {f : SF} {st : Int} (h1 : FB A w vn f.b) (h2 : FB A w vb f.old) (h3 : (f.st : Int) = st) : FileV A w (.agg #[vn, vb, .int .i64 st]) f := ⟨vn, vb, by rw [h3], h1, h2⟩
set_option maxHeartbeats 1000000 in
theorem written_any (A : Nat → Prop) (v : Value) (f : SF) (P : Option Addr) (m c : Nat) (xs : List Int) (w : World) (hv : FileV A w v f) (hx : Nums .u8 w P m xs) (hmc : m ≤ c) (hm : m ≤ 1000000) (hc : c ≤ maxLen) :
    Calls Try.prog 39 #[v, .slice P m c] w fun e w' => ∃ v', e = .returned v' ∧ FileV (Grw A w w') w' v' (wrF (some f) xs) ∧ Below w.heap.size w w' := by
  obtain ⟨vn, vb, rfl, hn, hb⟩ := hv
  have Hn := Lib.hid hn
  have Hb := Lib.hid hb
  have Hx := Lib.hid hx
  obtain ⟨P1, n1, c1, e1⟩ := hn.slice
  obtain ⟨P2, n2, c2, e2⟩ := hb.slice
  subst e1 e2
  clear hn hb hx
  obtain ⟨st, hst⟩ : ∃ st, st = (f.st : Int) := ⟨_, rfl⟩
  rw [← hst]
  by_cases h2 : st = 2
  · subst h2
    have e : wrF (some f) xs = ⟨xs, 1, f.b⟩ := by unfold wrF; dsimp only; rw [if_pos (by omega)]
    rw [e]
    clear e hst
    go_enter Try.func39, Try.ntmps39
    go_wp2_with fail
    refine (allB_any P m c xs _ (by exact (Hx.out.keep ((Keeps.refl w).alloc _)).keep ((Keeps.refl _).alloc _)) hmc hm hc).mono ?_
    rintro e w1 ⟨v1, rfl, h1, h2⟩
    obtain ⟨k1, k2, k3, k4⟩ := boxes2 (X := [.slice P1 n1 c1, .slice P1 n1 c1, .int .i64 1]) (Y := [.slice none 0 0, .slice none 0 0, .int .i64 0]) h2
    have h3 := FB.new (A := A) h1 Hx.out.1
    obtain ⟨P3, n3, c3, e3⟩ := h3.slice
    subst e3
    have H3 := Lib.hid (h3.mono fun k hk => grw_mono (w := w) (by simp; omega) hk)
    have H4 := Lib.hid ((Hn.out.below k3).grw (w := w))
    have K3 := Lib.hid k3
    have b0 := k1.cell (i := 0) rfl
    have b1 := k1.cell (i := 1) rfl
    have b2 := k1.cell (i := 2) rfl
    have bf := k1.frozen
    have K1 := Lib.hid (Ty.of k1)
    have K2 := Lib.hid (Ty.of k2)
    have d0 := k2.cell (i := 0) rfl
    have d1 := k2.cell (i := 1) rfl
    have d2 := k2.cell (i := 2) rfl
    have df := k2.frozen
    clear h1 h2 h3 k1 k2 k3 k4
    go_wp2
    refine bodyPost_ret (v := .agg #[.slice P3 n3 c3, .slice P1 n1 c1, .int .i64 1]) (by simp [results, Try.results39, go_sem, d0, d1, d2]) rfl ⟨_, rfl, ?_, ?_⟩
    · simp only [grw_set]
      exact fileV_mk ((((H3.out.set K1.out (by decide) _ _).set (K2.out.set _ _) (by decide) _ _).set ((K2.out.set _ _).set _ _) (by decide) _ _).set (((K2.out.set _ _).set _ _).set _ _) (by decide) _ _)
        ((((H4.out.set K1.out (by decide) _ _).set (K2.out.set _ _) (by decide) _ _).set ((K2.out.set _ _).set _ _) (by decide) _ _).set (((K2.out.set _ _).set _ _).set _ _) (by decide) _ _) rfl
    · exact (((K3.out.setCell (p := ⟨w.heap.size, 0, none⟩) (Nat.le_refl _) _).setCell (p := ⟨w.heap.size + 1, 0, none⟩) (Nat.le_succ _) _).setCell (p := ⟨w.heap.size + 1, 1, none⟩) (Nat.le_succ _) _).setCell (p := ⟨w.heap.size + 1, 2, none⟩) (Nat.le_succ _) _
  · have e : wrF (some f) xs = ⟨xs, f.st, f.old⟩ := by unfold wrF; dsimp only; rw [if_neg (by omega)]
    rw [e]
    have h2' : (st == 2) = false := by simpa using h2
    have Hst := Lib.hid hst
    clear e hst h2
    go_enter Try.func39, Try.ntmps39
    go_wp2_with fail
    refine (allB_any P m c xs _ (by exact (Hx.out.keep ((Keeps.refl w).alloc _)).keep ((Keeps.refl _).alloc _)) hmc hm hc).mono ?_
    rintro e w1 ⟨v1, rfl, h1, h2⟩
    obtain ⟨k1, k2, k3, k4⟩ := boxes2 (X := [.slice P1 n1 c1, .slice P2 n2 c2, .int .i64 st]) (Y := [.slice none 0 0, .slice none 0 0, .int .i64 0]) h2
    have h3 := FB.new (A := A) h1 Hx.out.1
    obtain ⟨P3, n3, c3, e3⟩ := h3.slice
    subst e3
    have H3 := Lib.hid (h3.mono fun k hk => grw_mono (w := w) (by simp; omega) hk)
    have H4 := Lib.hid ((Hb.out.below k3).grw (w := w))
    have K3 := Lib.hid k3
    have b0 := k1.cell (i := 0) rfl
    have b1 := k1.cell (i := 1) rfl
    have b2 := k1.cell (i := 2) rfl
    have bf := k1.frozen
    have K1 := Lib.hid (Ty.of k1)
    have K2 := Lib.hid (Ty.of k2)
    have d0 := k2.cell (i := 0) rfl
    have d1 := k2.cell (i := 1) rfl
    have d2 := k2.cell (i := 2) rfl
    have df := k2.frozen
    clear h1 h2 h3 k1 k2 k3 k4
    go_wp2
    refine bodyPost_ret (v := .agg #[.slice P3 n3 c3, .slice P2 n2 c2, .int .i64 st]) (by simp [results, Try.results39, go_sem, d0, d1, d2]) rfl ⟨_, rfl, ?_, ?_⟩
    · simp only [grw_set]
      exact fileV_mk ((((H3.out.set K1.out (by decide) _ _).set (K2.out.set _ _) (by decide) _ _).set ((K2.out.set _ _).set _ _) (by decide) _ _).set (((K2.out.set _ _).set _ _).set _ _) (by decide) _ _)
        ((((H4.out.set K1.out (by decide) _ _).set (K2.out.set _ _) (by decide) _ _).set ((K2.out.set _ _).set _ _) (by decide) _ _).set (((K2.out.set _ _).set _ _).set _ _) (by decide) _ _) Hst.out.symm
    · exact (((K3.out.setCell (p := ⟨w.heap.size, 0, none⟩) (Nat.le_refl _) _).setCell (p := ⟨w.heap.size + 1, 0, none⟩) (Nat.le_succ _) _).setCell (p := ⟨w.heap.size + 1, 1, none⟩) (Nat.le_succ _) _).setCell (p := ⟨w.heap.size + 1, 2, none⟩) (Nat.le_succ _) _
end Go.Proofs.Ytgkgkekgmcldmaa
