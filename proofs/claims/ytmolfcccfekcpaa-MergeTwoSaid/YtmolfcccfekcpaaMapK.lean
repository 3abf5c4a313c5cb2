/- Package runs: each cell by its key as a text. -/
import Derived.IntWalk
import Derived.Maps.OwnSet
import Derived.Maps.OwnIn
import Derived.StringKeys
import Derived.Test.YtmolfcccfekcpaaText
import Derived.Test.YtmolfcccfekcpaaRangeS
import Derived.Test.YtmolfcccfekcpaaRegP
import Derived.Test.YtmolfcccfekcpaaDeal
namespace Go.Proofs.Ytmolfcccfekcpaa
open Go.RowKit Go.Shelf
attribute [local go_sem] Oper.semAt_some
/-- The five cells of a row's item, as a walk spells them. -/
theorem at5 {w : World} {ad : Addr} {vs : List V5} {i : Nat} {v : V5} (hv : vs[i]? = some v) (hc : ∀ j u, (flatV vs)[j]? = some u → w.cell? (ad.add j) = some u) : w.cell? (ad.add (i * 5)) = some v.a ∧ w.cell? ⟨(ad.add (i * 5)).block, (ad.add (i * 5)).off + 1, none⟩ = some v.b ∧ w.cell? ⟨(ad.add (i * 5)).block, (ad.add (i * 5)).off + 2, none⟩ = some v.c ∧ w.cell? ⟨(ad.add (i * 5)).block, (ad.add (i * 5)).off + 3, none⟩ = some v.d ∧ w.cell? ⟨(ad.add (i * 5)).block, (ad.add (i * 5)).off + 4, none⟩ = some v.e := by
  obtain ⟨f0, f1, f2, f3, f4⟩ := flatV_five hv
  have o : ∀ k u, 0 < k → w.cell? ((ad.add (i * 5)).add k) = some u → w.cell? ⟨(ad.add (i * 5)).block, (ad.add (i * 5)).off + k, none⟩ = some u := fun k u hk h => by
    rwa [show (ad.add (i * 5)).add k = ⟨(ad.add (i * 5)).block, (ad.add (i * 5)).off + k, none⟩ from by rw [Addr.add, if_neg (by omega)]] at h
  have q : ∀ k u, (flatV vs)[i * 5 + k]? = some u → w.cell? ((ad.add (i * 5)).add k) = some u := fun k u h => by
    rw [add_of_add]; exact hc _ u h
  exact ⟨hc _ _ f0, o 1 _ (by omega) (q 1 _ f1), o 2 _ (by omega) (q 2 _ f2), o 3 _ (by omega) (q 3 _ f3), o 4 _ (by omega) (q 4 _ f4)⟩
/-- As it was, but that nothing panics. -/
def noP (Q : Exit → Act → World → Prop) : Exit → Act → World → Prop
  | .panic _, _, _ => False
  | e, a, w => Q e a w
theorem noP_le {Q : Exit → Act → World → Prop} : ∀ {e : Exit} {a : Act} {w : World}, noP Q e a w → Q e a w := by
  intro e a w h
  cases e <;> first | exact h | exact h.elim
theorem noP_normal {Q : Exit → Act → World → Prop} {a : Act} {w : World} (h : Q .normal a w) : noP Q .normal a w := h
theorem region_J {F : Fence} {n : Nat} {P : Program} {ops : Array Oper} {Q : Exit → Act → World → Prop} {S : World → Prop} {id : Nat} {a : Act} {w : World} (hm : P.follows .mixedOrders = true) (hS : S w.drew) (h : S w.drew → anyI F n P .any ops (noP Q) S ops.size (Array.replicate ops.size false) a w.drew) : (Code.region id ops true).wpIn F n P Q a w :=
  wpIn_mono (region_I hm hS h) fun _ _ _ h => noP_le h
theorem region_NJ {F : Fence} {n : Nat} {P : Program} {ops : Array Oper} {Q : Exit → Act → World → Prop} {id : Nat} {a : Act} {w : World} (S : World → Prop) (kill : List Nat) (hm : P.follows .mixedOrders = true) (hS : S w.drew) (h : S w.drew → anyN F n P .any ops (noP Q) S kill ops.size (Array.replicate ops.size false) a w.drew) : (Code.region id ops true).wpIn F n P Q a w :=
  wpIn_mono (region_N S kill hm hS h) fun _ _ _ h => noP_le h
/-- What keyed tells of a cell. -/
def encK (x : V5 × Cel) : Array Value := #[.string (strOf (textI x.2.key)), .agg #[x.1.a, x.1.b, x.1.c, x.1.d, x.1.e]]
end Go.Proofs.Ytmolfcccfekcpaa
/- Package runs: where each key is held, as a map by texts. -/
namespace Go.Proofs.Ytmolfcccfekcpaa
open Go.RowKit Go.Shelf Go.Maps Go.MapKept Go.ChangeMaps
theorem zero_int (w : World) : (zeroValue 3).run Try.prog w = .ok (.int .i64 0) w := by kernel_rfl
/-- Keys whose values are from 0 to 15. -/
def OkV (k : List Int) : Prop := ∀ v ∈ k, 0 ≤ v ∧ v ≤ 15
/-- A map of the call's own that tells of each of some keys at which place it stands. -/
def MX (X : World) (mo : Nat) (ks : List (List Int)) : Prop := ∃ n, ∃ D : DataW Unit, X.ownsMap Try.prog 9 (plainElem Try.prog 3) mo n D ∧ n ≤ ks.length ∧ (∀ k, OkV k → Maps.has D (.string (textL k)) = decide (k ∈ ks)) ∧ ∀ (i : Nat) k, ks[i]? = some k → D.atKey (.string (textL k)) (.lit (.int .i64 0)) = .lit (.int .i64 (i : Int))
set_option maxRecDepth 100000
theorem key_lit {k : List Int} (hk : OkV k) (hl : k.length ≤ 1000) : keyOf Try.prog 9 (.string (strOf (textI k))) = some (.string (textL k)) := by
  have h1 := textI_len k
  have h2 : (strOf (textI k)).size = (textI k).length := by simp [strOf, ByteArray.size]
  rw [WideMaps.keyOf_string_mk Try.underlying9 (by simp only [maxLen]; omega), strOf_text hk]
theorem MX.made (w : World) : MX (w.alloc (.map #[] 0)) w.heap.size [] := ⟨0, _, World.ownsMap_made w _ _ _, Nat.le_refl _, fun k _ => rfl, fun i k h => by simp at h⟩
theorem MX.lt {X : World} {mo : Nat} {ks : List (List Int)} (h : MX X mo ks) : mo < X.heap.size := by
  obtain ⟨n, D, h1, -⟩ := h
  exact h1.lt
theorem MX.stay {X Y : World} {mo : Nat} {ks : List (List Int)} (h : MX X mo ks) (hb : Y.heap[mo]? = X.heap[mo]?) : MX Y mo ks := by
  obtain ⟨n, D, ⟨es, clock, h1, h2⟩, h3⟩ := h
  exact ⟨n, D, ⟨es, clock, hb.trans h1, h2⟩, h3⟩
end Go.Proofs.Ytmolfcccfekcpaa
