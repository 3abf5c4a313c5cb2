/- Numbers written over: what stays. -/
import Derived.Test.YtaaciedelfaekaaDoorSw5
import Derived.Test.YtaaciedelfaekaaDoorKnow5
namespace Go.Proofs.YtaaciedelfaekaaDoor
open Go.RowKit Go.Shelf
/-- As it was, but for numbers; nothing below B has turned. -/
structure Shp (B : Nat) (w8 X : World) : Prop where
  ex : ∀ p, (∃ v, w8.cell? p = some v) → ∃ v, X.cell? p = some v
  same : ∀ p v, w8.cell? p = some v → (∀ n, v ≠ .int .i64 n) → X.cell? p = some v
  fz : ∀ p, w8.frozen? p = false → X.frozen? p = false
  bel : Below B w8 X
theorem Shp.refl (B : Nat) (w : World) : Shp B w w := ⟨fun _ h => h, fun _ _ h _ => h, fun _ h => h, Below.refl _ _⟩
theorem Shp.write {B b j : Nat} {w8 X : World} (h : Shp B w8 X) (hp : ∃ n, w8.cell? ⟨b, j, none⟩ = some (.int .i64 n)) (hb : B ≤ b) (y : Int) : Shp B w8 (X.setCell ⟨b, j, none⟩ (.int .i64 y)) where
  ex := fun p hv => by
    obtain ⟨v, hv⟩ := h.ex p hv
    exact cell?_setCell_some hv
  same := fun p v hv hn => by
    have hne : (⟨b, j, none⟩ : Addr) ≠ p := fun e => by
      obtain ⟨n, hn'⟩ := hp
      rw [e, hv] at hn'
      injection hn' with hn'
      exact hn n hn'
    rw [World.cell?_setCell_other (h := hne)]
    exact h.same p v hv hn
  fz := fun p hp' => by
    rw [World.frozen?_setCell]
    exact h.fz p hp'
  bel := h.bel.setCell (p := ⟨b, j, none⟩) hb _
theorem Shp.drew {B : Nat} {w8 X : World} (h : Shp B w8 X) : Shp B w8 X.drew := ⟨h.ex, h.same, h.fz, h.bel.drew⟩
theorem slice_nint {P : Option Addr} {n c : Nat} : ∀ k, (Value.slice P n c) ≠ .int .i64 k := fun _ e => by cases e
/-- A run of the call's own: what is read and written of it. -/
theorem GRs.accs {B : Nat} {X : World} {v : Value} {us : List V5} {J : List Cel} {me : Nat} (h : GRs B X v us J) (hn : 1 ≤ J.length) (he : ∀ x ∈ J, EvenC me x) :
    ∃ g c, v = .slice (some ⟨g, 0, none⟩) J.length c ∧ B ≤ g ∧ ∀ k, k < J.length →
      (∃ n, X.cell? ⟨g, k * 5 + 1, none⟩ = some (.int .i64 n)) ∧ (∀ j, X.frozen? ⟨g, j, none⟩ = false) ∧
      ∃ Ps cs Pn cn, X.cell? ⟨g, k * 5 + 2, none⟩ = some (.slice Ps me cs) ∧ X.cell? ⟨g, k * 5 + 3, none⟩ = some (.slice Pn me cn) ∧
        (0 < me → ∃ gs gn, Ps = some ⟨gs, 0, none⟩ ∧ Pn = some ⟨gn, 0, none⟩ ∧ B ≤ gs ∧ B ≤ gn ∧ (∀ j, X.frozen? ⟨gs, j, none⟩ = false) ∧ (∀ j, X.frozen? ⟨gn, j, none⟩ = false) ∧ ∀ j, j < me → (∃ n, X.cell? ⟨gs, j, none⟩ = some (.int .i64 n)) ∧ ∃ n, X.cell? ⟨gn, j, none⟩ = some (.int .i64 n)) := by
  have hul := h.len
  obtain ⟨P, c, hv, -, -, h2, -⟩ := h.form
  obtain ⟨g, rfl, hB, -, -, -⟩ := h2 (by omega)
  rw [hul] at hv
  subst hv
  refine ⟨g, c, rfl, hB, fun k hk => ?_⟩
  obtain ⟨u, hu⟩ : ∃ u, us[k]? = some u := ⟨_, List.getElem?_eq_getElem (by omega)⟩
  obtain ⟨x, hx⟩ : ∃ x, J[k]? = some x := ⟨_, List.getElem?_eq_getElem hk⟩
  obtain ⟨hb, ho, -⟩ := h.2.2 k u x hu hx
  obtain ⟨-, c1, c2, c3, -⟩ := h.five hu
  obtain ⟨e1, e2, -⟩ := he x (List.mem_of_getElem? hx)
  obtain ⟨Ps, cs, fs, -⟩ := ho.sum.form
  obtain ⟨Pn, cn, fn, -⟩ := ho.mn.form
  rw [e1] at fs
  rw [e2] at fn
  refine ⟨⟨_, by rw [← hb]; exact c1⟩, fun j => h.froz j, Ps, cs, Pn, cn, by rw [c2, fs], by rw [c3, fn], fun hme => ?_⟩
  have key : ∀ {t : Value} {xs : List Int} {Q : Option Addr} {d : Nat}, OI B X t xs → xs.length = me → t = .slice Q me d → ∃ g, Q = some ⟨g, 0, none⟩ ∧ B ≤ g ∧ (∀ j, X.frozen? ⟨g, j, none⟩ = false) ∧ ∀ j, j < me → ∃ n, X.cell? ⟨g, j, none⟩ = some (.int .i64 n) := by
    intro t xs Q d o hl ht
    obtain ⟨g, c', e, hc⟩ := o.block 0 (by omega)
    rw [ht] at e
    injection e with e4 e5 e6
    subst e4 e6
    rw [ht] at o
    exact ⟨g, rfl, o.ge.1, fun j => o.frozen j, fun j hj => by
      obtain ⟨z, hz⟩ : ∃ z, xs[j]? = some z := ⟨_, List.getElem?_eq_getElem (by omega)⟩
      exact ⟨z, hc j z hz⟩⟩
  obtain ⟨gs, es, b1, z1, a1⟩ := key ho.sum e1 fs
  obtain ⟨gn, en, b2, z2, a2⟩ := key ho.mn e2 fn
  exact ⟨gs, gn, es, en, b1, b2, z1, z2, fun j hj => ⟨a1 j hj, a2 j hj⟩⟩
end Go.Proofs.YtaaciedelfaekaaDoor
