/- Package tree: the first of the least size, -1 of none; plans by hashing. -/
import Derived.Test.YtjllmladhjbnaaaDoorVals
import Derived.Test.YtjllmladhjbnaaaDoorTreP
namespace Go.Proofs.YtjllmladhjbnaaaDoor
open Go.RowKit Go.Shelf
attribute [local go_sem] Oper.semAt_some
/-- Whether there was one; the least size so far. -/
def anyB (l : List Int) : Bool := !l.isEmpty
def lowI (f : Int → Int) (l : List Int) : Int := if l = [] then 0 else f (leastP f l)
def vls {xs : List Int} (pre : List {x : Int // x ∈ xs}) : List Int := pre.map (·.1)
theorem vls_snoc {xs : List Int} (pre : List {x : Int // x ∈ xs}) (x : {x : Int // x ∈ xs}) : vls (pre ++ [x]) = vls pre ++ [x.1] := by simp [vls]
set_option maxRecDepth 100000 in
set_option maxHeartbeats 4000000 in
theorem tleast_any (pb g m c : Nat) (cb : Array Value) (A : Option Addr) (xs : List Int) (f : Int → Int) (w : World) (hpb : w.cell? ⟨pb, 0, none⟩ = some (.slice A m c)) (hxs : Nums .i64 w A m xs) (hm : m ≤ 1000000)
    (eg : ∀ args w, (callFunc g args).run Tryd.prog w = .ok (.enter g args) w)
    (hstep : ∀ x ∈ xs, ∀ W, Below w.heap.size w W → Calls Tryd.prog g (#[.int .i64 x] ++ cb) W fun e W' => e = .returned (.int .i64 (f x)) ∧ Below W.heap.size W W') :
    Calls Tryd.prog 27 #[.func (.func 46) #[] #[.pointer (some ⟨pb, 0, none⟩)], .func (.func g) #[] cb, .int .i64 (-1)] w fun e w' => e = .returned (.int .i64 (leastP f xs)) ∧ Below w.heap.size w w' := by
  refine callsIn_wide (n := 9).1 ?_
  have Hst := Lib.hid hstep
  have HXS := Lib.hid hxs
  have HPB := Lib.hid hpb
  clear hstep hxs hpb
  refine callsIn_of_wp_marks Tryd.func27 rfl trivial ?_ rfl
  simp only [Tryd.ntmps27, List.size_toArray, List.length_cons, List.length_nil, Nat.reduceAdd, Nat.reduceSub, Array.replicate_succ, Array.replicate_zero, List.push_toArray, List.append_toArray, List.nil_append, List.cons_append]
  gi_wp2
  have b0 := (((Boxed.new w 46 (.func (.func g) #[] cb)).alloc (.cells #[.int .i64 (-1)] 3)).alloc (.cells #[.bool false] 4)).alloc (.cells #[.int .i64 0] 3)
  have b1 := ((Boxed.new (w.alloc (.cells #[.func (.func g) #[] cb] 46)) 3 (.int .i64 (-1))).alloc (.cells #[.bool false] 4)).alloc (.cells #[.int .i64 0] 3)
  have b2 := (Boxed.new ((w.alloc (.cells #[.func (.func g) #[] cb] 46)).alloc (.cells #[.int .i64 (-1)] 3)) 4 (.bool false)).alloc (.cells #[.int .i64 0] 3)
  have b3 := Boxed.new (((w.alloc (.cells #[.func (.func g) #[] cb] 46)).alloc (.cells #[.int .i64 (-1)] 3)).alloc (.cells #[.bool false] 4)) 3 (.int .i64 0)
  simp only [World.size_alloc] at b1 b2 b3
  have hB : Below w.heap.size w ((((w.alloc (.cells #[.func (.func g) #[] cb] 46)).alloc (.cells #[.int .i64 (-1)] 3)).alloc (.cells #[.bool false] 4)).alloc (.cells #[.int .i64 0] 3)) := ((((Below.refl _ w).alloc (Nat.le_refl _) _).alloc (by simp) _).alloc (by simp; omega) _).alloc (by simp; omega) _
  have hz : ((((w.alloc (.cells #[.func (.func g) #[] cb] 46)).alloc (.cells #[.int .i64 (-1)] 3)).alloc (.cells #[.bool false] 4)).alloc (.cells #[.int .i64 0] 3)).heap.size = w.heap.size + 4 := by simp
  generalize (((w.alloc (.cells #[.func (.func g) #[] cb] 46)).alloc (.cells #[.int .i64 (-1)] 3)).alloc (.cells #[.bool false] 4)).alloc (.cells #[.int .i64 0] 3) = w4 at b0 b1 b2 b3 hB hz ⊢
  refine range_goes rfl (by omega) (gf := 46) (lb := #[.pointer (some ⟨pb, 0, none⟩)]) rfl trivial (enters_of Tryd.func46 (by kernel_rfl) rfl)
    (encs := fun x : {x : Int // x ∈ xs} => #[Value.int .i64 x.1]) (n₀ := w.heap.size) (N := m) (S := fun ys => vls ys = xs) (by omega) (fun _ => rfl)
    (fun l J W hW hY h0 => values1_any 8 (by omega) l pb w.heap.size m c A xs J w W HPB.out HXS.out rfl (hB.trans (hW.mono (by omega))) hm hY h0)
    (fun pre W => ((Boxed W w.heap.size 46 (.func (.func g) #[] cb) ∧ Boxed W (w.heap.size + 1) 3 (.int .i64 (leastP f (vls pre)))) ∧ Boxed W (w.heap.size + 1 + 1) 4 (.bool (anyB (vls pre))) ∧ Boxed W (w.heap.size + 1 + 1 + 1) 3 (.int .i64 (lowI f (vls pre)))) ∧ Below w.heap.size w4 W)
    ⟨fun pre W o h => ⟨⟨⟨h.1.1.1.alloc _, h.1.1.2.alloc _⟩, h.1.2.1.alloc _, h.1.2.2.alloc _⟩, h.2.alloc (Nat.le_trans (by omega) h.2.size) _⟩,
     fun pre W l o o' h hl ho hc => ⟨⟨⟨(World.putObj_heap_other (by omega)).trans h.1.1.1, (World.putObj_heap_other (by omega)).trans h.1.1.2⟩, (World.putObj_heap_other (by omega)).trans h.1.2.1, (World.putObj_heap_other (by omega)).trans h.1.2.2⟩, h.2.trans (below_put _ (by omega) ho)⟩⟩
    ⟨⟨⟨b0, b1⟩, b2, b3⟩, Below.refl _ _⟩
    (fun x => { tmps := #[.func (.func 46) #[] #[.pointer (some ⟨pb, 0, none⟩)], .func (.func g) #[] cb, .int .i64 (-1), undef, .pointer (some ⟨w.heap.size, 0, none⟩), undef, .int .i64 0, .pointer (some ⟨w.heap.size + 1, 0, none⟩), .pointer (some ⟨w.heap.size + 1 + 1, 0, none⟩), .pointer (some ⟨w.heap.size + 1 + 1 + 1, 0, none⟩), .int .i64 x.1, undef, .int .i64 (-1), .func (.func 46) #[] #[.pointer (some ⟨pb, 0, none⟩)], .int .i64 x.1, undef, undef, undef, undef, undef, undef, undef, undef, undef, undef, undef, undef, undef], defers := [] }) ?assign ?body ?done
  case assign =>
    intro l x W K hK
    gi_wp2
    exact hK
  case done =>
    rintro D ys W hD hys ⟨⟨⟨-, hv⟩, -, -⟩, hBW⟩ hK
    have hc := hv.cell
    rw [hys] at hc
    replace hBW := hB.trans hBW
    have HBW := Lib.hid hBW
    have HK := Lib.hid hK
    clear hys hBW hv
    gi_wp2
    refine ⟨by simp, .inl ⟨_, _, rfl, run_takeDeferred HK.out, ?_⟩⟩
    exact ⟨_, results_tmp rfl _ _ _, rfl, HBW.out.trans (below_put _ (by omega) HK.out)⟩
  case body =>
    rintro l pre x W ⟨⟨⟨g0, g1⟩, g2, g3⟩, hBW⟩ hlt
    have hc0 := g0.cell
    have hB4 := hB.trans hBW
    have HS := Lib.hid (Hst.out x.1 x.2 W hB4)
    have hsn := leastP_snoc f (vls pre) x.1
    have hls : lowI f (vls pre ++ [x.1]) = f (leastP f (vls pre ++ [x.1])) := by unfold lowI; rw [if_neg (by simp)]
    have has : anyB (vls pre ++ [x.1]) = true := by unfold anyB; simp
    have HMP := Lib.hid (vls_snoc pre x)
    generalize (vls pre) = L at g1 g2 g3 hsn hls has HMP
    obtain ⟨bst, hbst⟩ : ∃ b, b = leastP f L := ⟨_, rfl⟩
    obtain ⟨fx, hfx⟩ : ∃ b, b = f x.1 := ⟨_, rfl⟩
    rw [← hbst] at g1 hsn
    rw [← hfx] at HS hsn
    have HSN := Lib.hid hsn
    have HLS := Lib.hid hls
    have HAS := Lib.hid has
    have HF := Lib.hid hfx
    have HBS := Lib.hid hbst
    clear hsn hls has hfx hbst
    have TK : ∀ w' : World, Below W.heap.size W w' → Boxed w' w.heap.size 46 (.func (.func g) #[] cb) → ∀ {v1 v2 v3 : Value}, Boxed w' (w.heap.size + 1) 3 v1 → Boxed w' (w.heap.size + 1 + 1) 4 v2 → Boxed w' (w.heap.size + 1 + 1 + 1) 3 v3 →
        leastP f (vls (pre ++ [x])) = x.1 → lowI f (vls (pre ++ [x])) = fx → anyB (vls (pre ++ [x])) = true →
        let w3 := ((w'.setCell ⟨w.heap.size + 1, 0, none⟩ (.int .i64 x.1)).setCell ⟨w.heap.size + 1 + 1 + 1, 0, none⟩ (.int .i64 fx)).setCell ⟨w.heap.size + 1 + 1, 0, none⟩ (.bool true)
        KeepsOthers W w3 ∧ Below w.heap.size W w3 ∧ (((Boxed w3 w.heap.size 46 (.func (.func g) #[] cb) ∧ Boxed w3 (w.heap.size + 1) 3 (.int .i64 (leastP f (vls (pre ++ [x]))))) ∧ Boxed w3 (w.heap.size + 1 + 1) 4 (.bool (anyB (vls (pre ++ [x])))) ∧ Boxed w3 (w.heap.size + 1 + 1 + 1) 3 (.int .i64 (lowI f (vls (pre ++ [x]))))) ∧ Below w.heap.size w4 w3) := by
      intro w' hb k0 v1 v2 v3 k1 k2 k3 e1 e2 e3 w3
      rw [e1, e2, e3]
      have hs : Below w.heap.size W w3 := (((hb.mono hB4.size).setCell (p := ⟨w.heap.size + 1, 0, none⟩) (by show w.heap.size ≤ w.heap.size + 1; omega) _).setCell (p := ⟨w.heap.size + 1 + 1 + 1, 0, none⟩) (by show w.heap.size ≤ w.heap.size + 1 + 1 + 1; omega) _).setCell (p := ⟨w.heap.size + 1 + 1, 0, none⟩) (by show w.heap.size ≤ w.heap.size + 1 + 1; omega) _
      exact ⟨(((KeepsOthers.mk hb.size fun k o hk _ => (hb.block k (Array.getElem?_eq_some_iff.1 hk).1).trans hk).trans (KeepsOthers.setCell _ _ _)).trans (KeepsOthers.setCell _ _ _)).trans (KeepsOthers.setCell _ _ _), hs,
        ⟨⟨((k0.other (by omega) _).other (by omega) _).other (by omega) _, ((k1.set _).other (by omega) _).other (by omega) _⟩, ((k2.other (by omega) _).other (by omega) _).set _, ((k3.other (by omega) _).set _).other (by omega) _⟩, hBW.trans hs⟩
    by_cases hL : L = []
    · subst hL
      have e2 : anyB ([] : List Int) = false := rfl
      rw [e2] at g2
      gi_wp2_with (refine ⟨trivial, ?_⟩; refine (CallsIn.inRound l (callsIn_wide.2 HS.out)).mono ?_; rintro e w' ⟨rfl, hb⟩; have k0 : Boxed w' w.heap.size 46 (.func (.func g) #[] cb) := (hb.block _ g0.lt).trans g0; have k1 : Boxed w' (w.heap.size + 1) 3 (.int .i64 bst) := (hb.block _ g1.lt).trans g1; have k2 : Boxed w' (w.heap.size + 1 + 1) 4 (.bool false) := (hb.block _ g2.lt).trans g2; have k3 : Boxed w' (w.heap.size + 1 + 1 + 1) 3 (.int .i64 (lowI f [])) := (hb.block _ g3.lt).trans g3; have c1 := k1.cell; have c2 := k2.cell; have c3 := k3.cell; have f1 := k1.frozen; have f2 := k2.frozen; have f3 := k3.frozen)
      clear c1 c2 c3 f1 f2 f3
      have hp2 : leastP f (vls (pre ++ [x])) = x.1 := by rw [HMP.out, HSN.out]; simp
      have hp3 : lowI f (vls (pre ++ [x])) = fx := by rw [HMP.out, HLS.out, ← HMP.out, hp2, HF.out]
      have hp4 : anyB (vls (pre ++ [x])) = true := by rw [HMP.out, HAS.out]
      exact TK w' hb k0 k1 k2 k3 hp2 hp3 hp4
    · have e2 : anyB L = true := by unfold anyB; cases L with
        | nil => exact absurd rfl hL
        | cons a t => rfl
      have e3 : lowI f L = f bst := by unfold lowI; rw [if_neg hL, HBS.out]
      rw [e2] at g2
      rw [e3] at g3
      obtain ⟨fb, hfb⟩ : ∃ b, b = f bst := ⟨_, rfl⟩
      rw [← hfb] at g3
      have HFB := Lib.hid hfb
      clear e2 e3 hfb
      by_cases hlt2 : fx < fb
      · gi_wp2_with (refine ⟨trivial, ?_⟩; refine (CallsIn.inRound l (callsIn_wide.2 HS.out)).mono ?_; rintro e w' ⟨rfl, hb⟩; have k0 : Boxed w' w.heap.size 46 (.func (.func g) #[] cb) := (hb.block _ g0.lt).trans g0; have k1 : Boxed w' (w.heap.size + 1) 3 (.int .i64 bst) := (hb.block _ g1.lt).trans g1; have k2 : Boxed w' (w.heap.size + 1 + 1) 4 (.bool true) := (hb.block _ g2.lt).trans g2; have k3 : Boxed w' (w.heap.size + 1 + 1 + 1) 3 (.int .i64 fb) := (hb.block _ g3.lt).trans g3; have c1 := k1.cell; have c2 := k2.cell; have c3 := k3.cell; have f1 := k1.frozen; have f2 := k2.frozen; have f3 := k3.frozen)
        clear c1 c2 c3 f1 f2 f3
        have hp2 : leastP f (vls (pre ++ [x])) = x.1 := by rw [HMP.out, HSN.out]; rw [if_pos (.inr (by rw [← HFB.out]; exact hlt2))]
        have hp3 : lowI f (vls (pre ++ [x])) = fx := by rw [HMP.out, HLS.out, ← HMP.out, hp2, HF.out]
        have hp4 : anyB (vls (pre ++ [x])) = true := by rw [HMP.out, HAS.out]
        exact TK w' hb k0 k1 k2 k3 hp2 hp3 hp4
      · gi_wp2_with (refine ⟨trivial, ?_⟩; refine (CallsIn.inRound l (callsIn_wide.2 HS.out)).mono ?_; rintro e w' ⟨rfl, hb⟩; have k0 : Boxed w' w.heap.size 46 (.func (.func g) #[] cb) := (hb.block _ g0.lt).trans g0; have k1 : Boxed w' (w.heap.size + 1) 3 (.int .i64 bst) := (hb.block _ g1.lt).trans g1; have k2 : Boxed w' (w.heap.size + 1 + 1) 4 (.bool true) := (hb.block _ g2.lt).trans g2; have k3 : Boxed w' (w.heap.size + 1 + 1 + 1) 3 (.int .i64 fb) := (hb.block _ g3.lt).trans g3; have c1 := k1.cell; have c2 := k2.cell; have c3 := k3.cell; have f1 := k1.frozen; have f2 := k2.frozen; have f3 := k3.frozen)
        clear c1 c2 c3 f1 f2 f3
        have hp2 : leastP f (vls (pre ++ [x])) = bst := by rw [HMP.out, HSN.out, if_neg (by rw [← HFB.out]; exact fun h => h.elim hL (fun h => by omega))]
        have hp3 : lowI f (vls (pre ++ [x])) = fb := by rw [HMP.out, HLS.out, ← HMP.out, hp2, HFB.out]
        have hp4 : anyB (vls (pre ++ [x])) = true := by rw [HMP.out, HAS.out]
        have hs : Below w.heap.size W w' := hb.mono hB4.size
        refine ⟨KeepsOthers.mk hb.size fun k o hk _ => (hb.block k (Array.getElem?_eq_some_iff.1 hk).1).trans hk, hs, ?_⟩
        dsimp only
        rw [hp2, hp3, hp4]
        exact ⟨⟨⟨k0, k1⟩, k2, k3⟩, hBW.trans hs⟩
end Go.Proofs.YtjllmladhjbnaaaDoor
