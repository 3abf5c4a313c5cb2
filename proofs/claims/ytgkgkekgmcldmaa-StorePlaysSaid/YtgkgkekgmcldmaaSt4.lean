/- Package store's shelf: put, drop; what was done. -/
import Derived.Test.YtgkgkekgmcldmaaSt3
import Derived.Test.YtgkgkekgmcldmaaClone
import Derived.Test.YtgkgkekgmcldmaaRegion
import Derived.Deep.CutRange
import Derived.Deep.DeepCutAuto
import Derived.Deep.CutBlock
namespace Go.Proofs.Ytgkgkekgmcldmaa
open Go.RowKit
/-- What a crash leaves of a file, sure or not. -/
def lf (f : SF) (k : Int) : Option (List Int) := if f.st = 2 then some f.b else leftF f k
theorem FB.sized {A : Nat → Prop} {w : World} {v : Value} {xs : List Int} (h : FB A w v xs) : ∃ P c, v = .slice P xs.length c := by
  obtain ⟨P, c, hv, _⟩ := own_form h.1
  exact ⟨P, c, hv⟩
theorem FileV.slices {A : Nat → Prop} {w : World} {v : Value} {f : SF} (h : FileV A w v f) : ∃ P1 c1 P2 c2, v = .agg #[.slice P1 f.b.length c1, .slice P2 f.old.length c2, .int .i64 (f.st : Int)] ∧ FB A w (.slice P1 f.b.length c1) f.b ∧ FB A w (.slice P2 f.old.length c2) f.old := by
  obtain ⟨vn, vb, rfl, hn, hb⟩ := h
  obtain ⟨P1, c1, rfl⟩ := hn.sized
  obtain ⟨P2, c2, rfl⟩ := hb.sized
  exact ⟨P1, c1, P2, c2, rfl, hn, hb⟩
theorem box1 {w w1 : World} {X : List Value} {T : TypeId} (h : Below (w.alloc (.cells X.toArray T)).heap.size (w.alloc (.cells X.toArray T)) w1) : Own T w1 w.heap.size X ∧ Below w.heap.size w w1 ∧ w.heap.size + 1 ≤ w1.heap.size := by
  have h1 : Own T (w.alloc (.cells X.toArray T)) w.heap.size X := heap_alloc_new w _
  have h3 := h.size
  simp at h3
  exact ⟨h1.below h (by simp), ((Below.refl _ w).alloc (Nat.le_refl _) _).trans (h.mono (by simp)), h3⟩
set_option maxHeartbeats 1000000 in
theorem left_any (A : Nat → Prop) (v : Value) (f : SF) (k : Int) (w : World) (hv : FileV A w v f) (hf : f.ok) (hk : inK .i64 k) :
    Calls Try.prog 42 #[v, .int .i64 k] w fun e w' => ∃ P n c, e = .returned (.tuple #[.slice P n c, .bool (lf f k).isSome]) ∧ FB (Grw A w w') w' (.slice P n c) ((lf f k).getD []) ∧ Below w.heap.size w w' := by
  obtain ⟨P1, c1, P2, c2, rfl, hn, hb⟩ := hv.slices
  obtain ⟨n1, e1⟩ : ∃ n1, f.b.length = n1 := ⟨_, rfl⟩
  obtain ⟨n2, e2⟩ : ∃ n2, f.old.length = n2 := ⟨_, rfl⟩
  rw [e1] at hn ⊢
  rw [e2] at hb ⊢
  clear e1 e2
  have Hn := Lib.hid hn
  have Hb := Lib.hid hb
  have Hf := Lib.hid hf
  clear hn hb hf hv
  obtain ⟨hk1, hk2⟩ := hk
  obtain ⟨st, hst⟩ : ∃ st, st = (f.st : Int) := ⟨_, rfl⟩
  rw [← hst]
  have hbel : Below w.heap.size w (w.alloc (.cells #[.slice P1 n1 c1, .slice P2 n2 c2, .int .i64 st] 69)) := (Below.refl _ _).alloc (Nat.le_refl _) _
  have Hbel := Lib.hid hbel
  clear hbel
  by_cases h2 : f.st = 2
  · have e : lf f k = some f.b := by unfold lf; rw [if_pos h2]
    rw [e]
    have h2' : (st == 2) = true := by simp; omega
    clear e h2 hst
    go_enter Try.func42, Try.ntmps42
    go_wp2
    go_ret2
    exact ⟨_, _, _, rfl, (Hn.out.below Hbel.out).grw, Hbel.out⟩
  · have h2' : (st == 2) = false := by simp; omega
    have e : lf f k = leftF f k := by unfold lf; rw [if_neg h2]
    rw [e]
    clear e
    by_cases k1 : k = 1
    · have e : leftF f k = some f.b := by unfold leftF; rw [if_pos k1]
      rw [e]
      have k1' : (k == 1) = true := by simp; omega
      clear e h2 hst k1
      go_enter Try.func42, Try.ntmps42
      go_wp2
      go_ret2
      exact ⟨_, _, _, rfl, (Hn.out.below Hbel.out).grw, Hbel.out⟩
    · have k1' : (k == 1) = false := by simp; omega
      by_cases k2 : k = 2
      · have e : leftF f k = some (f.b.take (f.b.length / 2)) := by unfold leftF; rw [if_neg k1, if_pos k2]
        rw [e]
        have k2' : (k == 2) = true := by simp; omega
        obtain ⟨P, c, e1, h3, h4, hN⟩ := Hn.out.form Hf.out.b.2
        injection e1 with e1 e2 e3
        subst e1 e2 e3
        have hl := Hf.out.b.1
        have HN := Lib.hid hN
        have Hm := Lib.hid h4
        obtain ⟨q, hq⟩ : ∃ q, q = f.b.length := ⟨_, rfl⟩
        rw [← hq] at HN h3 hl ⊢
        have Hq := Lib.hid hq
        have hd : (q : Int) / 2 = ((q / 2 : Nat) : Int) := by omega
        have hq2 : q / 2 ≤ q := by omega
        generalize q / 2 = r at hd hq2 ⊢
        have Hd := Lib.hid hd
        clear hN h4 hq hst h2 k1 k2 hd Hn
        go_enter Try.func42, Try.ntmps42
        go_wp2_with fail
        rw [Hd.out]
        refine (firstB_any P1 q c1 r f.b _ (by exact HN.out.keep ((Keeps.refl w).alloc _)) hq2 h3 (by omega) Hm.out).mono ?_
        rintro e w1 ⟨v1, rfl, h1, h2⟩
        obtain ⟨e0, e1, e2⟩ := box1 (X := [.slice P1 q c1, .slice P2 n2 c2, .int .i64 st]) h2
        have h3 := FB.new (A := A) h1 (by rw [List.length_take, ← Hq.out]; omega)
        obtain ⟨P3, n3, c3, e3⟩ := h3.slice
        subst e3
        have H3 := Lib.hid (h3.mono fun k hk => grw_mono (w := w) (by simp) hk)
        have H1 := Lib.hid e1
        clear h1 h2 h3 e0 e1 e2
        go_wp2
        go_ret2
        exact ⟨_, _, _, rfl, H3.out, H1.out⟩
      · have e : leftF f k = if f.st = 1 then some f.old else none := by unfold leftF; rw [if_neg k1, if_neg k2]
        have e2 : (leftF f k).getD [] = f.old := by
          rw [e]
          split
          · rfl
          · rename_i h1
            rw [Hf.out.none_ h1]; rfl
        have e3 : (leftF f k).isSome = (st == 1) := by
          rw [e]
          split
          · simp; omega
          · simp; omega
        rw [e2, e3]
        have k2' : (k == 2) = false := by simp; omega
        clear e e2 e3 h2 hst k1 k2
        go_enter Try.func42, Try.ntmps42
        go_wp2_with fail
        go_quiet (fail)
        go_wp2
        go_ret2
        exact ⟨_, _, _, rfl, (Hb.out.below (below_drewN Hbel.out _)).grw, below_drewN Hbel.out _⟩
end Go.Proofs.Ytgkgkekgmcldmaa
