/- Package merge: how byKeys compares. -/
import Derived.Laws.EntriesVeiled
import Derived.Test.YtmolfcccfekcpaaHshd
import Derived.Test.YtmolfcccfekcpaaPcs
namespace Go.Proofs.Ytmolfcccfekcpaa
open Go.RowKit Go.Shelf Go.Sort Go.Lib
attribute [local go_sem] Oper.semAt_some
set_option maxRecDepth 100000 in
set_option maxHeartbeats 1000000 in
theorem mcmp_grow (k s n m k' s' n' m' : Value) (x y : Cel) (w : World) (hx : CR w k s n m x) (hy : CR w k' s' n' m' y) (h1 : x.key.length ≤ 1000000) (h2 : y.key.length ≤ 1000000) :
    Calls Try.prog 45 #[.agg #[k, .int .i64 x.cnt, s, n, m], .agg #[k', .int .i64 y.cnt, s', n', m']] w fun e w' => e = .returned (.int .i64 (cmpL x.key y.key)) ∧ ∃ os, w' = grow w os := by
  obtain ⟨⟨Pk, ck, rfl, hk⟩, ⟨Ps, cs, rfl, hs⟩, ⟨Pn, cn, rfl, hn⟩, ⟨Pm, cm, rfl, hm⟩⟩ := hx
  obtain ⟨⟨Qk, dk, rfl, gk⟩, ⟨Qs, ds, rfl, gs⟩, ⟨Qn, dn, rfl, gn⟩, ⟨Qm, dm, rfl, gm⟩⟩ := hy
  have R1 : Hid (RI w (.slice Pk x.key.length ck) x.key) := Lib.hid ⟨_, _, rfl, hk⟩
  have R2 : Hid (RI w (.slice Qk y.key.length dk) y.key) := Lib.hid ⟨_, _, rfl, gk⟩
  have L1 := Lib.hid h1
  have L2 := Lib.hid h2
  clear hk hs hn hm gk gs gn gm h1 h2
  generalize hlk : x.key.length = lk at R1 L1 ⊢
  generalize hlq : y.key.length = lq at R2 L2 ⊢
  have hb : RowKit.Below w.heap.size w ((w.alloc (.cells #[.slice Pk lk ck, .int .i64 x.cnt, .slice Ps x.sum.length cs, .slice Pn x.mn.length cn, .slice Pm x.mx.length cm] 44)).alloc (.cells #[.slice Qk lq dk, .int .i64 y.cnt, .slice Qs y.sum.length ds, .slice Qn y.mn.length dn, .slice Qm y.mx.length dm] 44)) := ((RowKit.Below.refl _ w).alloc (Nat.le_refl _) _).alloc (by simp) _
  have HB := Lib.hid hb
  have E1 := Lib.hid hlk
  have E2 := Lib.hid hlq
  clear hb hlk hlq
  go_enter Try.func45, Try.ntmps45
  go_wp2_with fail
  refine (less_any _ _ x.key y.key _ (R1.out.keep (Keeps.of_below HB.out)) (R2.out.keep (Keeps.of_below HB.out)) (by rw [E1.out]; exact L1.out) (by rw [E2.out]; exact L2.out)).mono ?_
  rintro e w' ⟨rfl, rfl⟩
  go_wp2
  go_ret
  exact ⟨rfl, _, by rw [alloc_eq_grow, alloc_eq_grow, grow_grow]⟩
set_option maxHeartbeats 1000000 in
theorem bykeys_any (w : World) :
    Calls Try.prog 34 #[] w fun e w' => e = .returned (.agg #[.func (.func 45) #[] #[], .func (.func 47) #[] #[]]) ∧ RowKit.Below w.heap.size w w' := by
  have oA : Own 60 (w.alloc (.cells #[.func (.func 45) #[] #[], .func (.func 47) #[] #[]] 60)) w.heap.size [.func (.func 45) #[] #[], .func (.func 47) #[] #[]] := heap_alloc_new w _
  have hb : RowKit.Below w.heap.size w (w.alloc (.cells #[.func (.func 45) #[] #[], .func (.func 47) #[] #[]] 60)) := (RowKit.Below.refl _ w).alloc (Nat.le_refl _) _
  have r0 := oA.cell (i := 0) rfl
  have r1 := oA.cell (i := 1) rfl
  have HB2 := Lib.hid hb
  have R0 := Lib.hid r0
  have R1 := Lib.hid r1
  clear r0 r1 hb oA
  go_enter Try.func34, Try.ntmps34
  go_wp2
  have r0 := R0.out
  have r1 := R1.out
  exact bodyPost_ret (v := .agg #[.func (.func 45) #[] #[], .func (.func 47) #[] #[]]) (by simp [results, Try.results34, go_sem, r0, r1]) rfl ⟨rfl, HB2.out⟩
end Go.Proofs.Ytmolfcccfekcpaa
