/- slices.Values of numbers: its iterator goes through all of them. -/
import Derived.Test.YtjllmladhjbnaaaDoorRange
import Derived.Test.YtjllmladhjbnaaaDoorTreP
import Derived.Test.YtjllmladhjbnaaaDoorSoA
import Derived.Test.YtjllmladhjbnaaaDoorOth
namespace Go.Proofs.YtjllmladhjbnaaaDoor
open Go.RowKit Go.Shelf
attribute [local go_sem] Oper.semAt_some
set_option maxRecDepth 100000 in
set_option maxHeartbeats 4000000 in
theorem values1_any (n : Nat) (hn : 1 ≤ n) (l pb n₀ m c : Nat) (A : Option Addr) (xs : List Int) (J : List {x : Int // x ∈ xs} → World → Prop) (W0 W : World)
    (hpb : W0.cell? ⟨pb, 0, none⟩ = some (.slice A m c)) (hxs : Nums .i64 W0 A m xs) (hn0 : n₀ = W0.heap.size) (hB0 : Below n₀ W0 W) (hm : m ≤ 1000000)
    (hY : ∀ pre x W1, J pre W1 → pre.length < m → YieldAt Fence.wide (n - 1) Tryd.prog l #[.int .i64 x.1] W1 fun e W' => e = .returned (.bool true) ∧ J (pre ++ [x]) W' ∧ Below n₀ W1 W')
    (h0 : J [] W) :
    CallsIn Fence.wide n Tryd.prog 46 #[.func (.yield l) #[] #[], .pointer (some ⟨pb, 0, none⟩)] W fun e W' => (∃ v, e = .returned v) ∧ ∃ ys : List {x : Int // x ∈ xs}, ys.map (·.1) = xs ∧ J ys W' := by
  have HXS := Lib.hid hxs
  have HPB := Lib.hid hpb
  have HL := Lib.hid hxs.len
  have cb := Keeps.of_below (hn0 ▸ hB0) _ _ hpb
  clear hxs hpb
  refine callsIn_of_wp Tryd.func46 rfl trivial ?_ rfl
  simp only [Tryd.ntmps46, List.size_toArray, List.length_cons, List.length_nil, Nat.reduceAdd, Nat.reduceSub, Array.replicate_succ, Array.replicate_zero, List.push_toArray, List.append_toArray, List.nil_append, List.cons_append]
  gi_wp2
  gi_loopw [7] (fun p wr => ∃ (k : Nat) (pre : List {x : Int // x ∈ xs}), p = .int .i64 k ∧ k ≤ m ∧ pre.map (·.1) = xs.take k ∧ J pre wr ∧ Below n₀ W0 wr) (fun p _ => m - (intOf p).toNat)
  case atStart => exact ⟨0, [], rfl, Nat.zero_le _, rfl, h0, hB0⟩
  case round =>
    obtain ⟨k, pre, rfl, hk, hpre, hJs, hB⟩ := hrel
    rename World => wr
    have HB := Lib.hid (hn0 ▸ hB : Below W0.heap.size W0 wr)
    have HJs := Lib.hid hJs
    have HP := Lib.hid hpre
    clear hJs hB cb hB0 hpre
    by_cases hlt : k < m
    · have kr := Keeps.of_below HB.out
      obtain ⟨ad, x, e, hx, -, hcx⟩ := (HXS.out.keep kr).at_ hlt
      subst e
      have k0 : (0 : Int) ≤ (k : Int) := by omega
      have k1 : (k : Int) < (m : Int) := by omega
      have hlen : pre.length = k := by have := congrArg List.length HP.out; rw [List.length_map, List.length_take, HL.out] at this; omega
      have hmx : x ∈ xs := List.mem_of_getElem? hx
      obtain ⟨fn, tmps, assign, body, hy, hR⟩ := hY pre ⟨x, hmx⟩ wr HJs.out (by rw [hlen]; exact hlt)
      dsimp only at hy
      have HX := Lib.hid hx
      clear hx hlen kr
      gi_wp2
      refine hR.mono ?_
      rintro e W3 ⟨rfl, hJ3, hb3⟩
      have HJ3 := Lib.hid hJ3
      have HB3 := Lib.hid ((hn0 ▸ HB.out : Below n₀ W0 wr).trans hb3)
      clear hJ3 hb3
      gi_wp2
      go_roundw
      case rel => exact ⟨k + 1, _, by go_num, by omega, by rw [List.take_add_one, HX.out, List.map_append, HP.out]; rfl, HJ3.out, HB3.out⟩
      case measure => simp [intOf]; omega
    · obtain rfl : k = m := by omega
      have ht : xs.take k = xs := List.take_of_length_le (by rw [HL.out]; omega)
      gi_wp2
      go_end0
      exact ⟨⟨_, rfl⟩, _, HP.out.trans ht, HJs.out⟩
set_option maxHeartbeats 1000000 in
theorem values_any (A : Option Addr) (m c : Nat) (w : World) :
    Calls Tryd.prog 25 #[.slice A m c] w fun e w' => e = .returned (.func (.func 46) #[] #[.pointer (some ⟨w.heap.size, 0, none⟩)]) ∧ w' = w.alloc (.cells #[.slice A m c] 22) := by
  go_enter Tryd.func25, Tryd.ntmps25
  go_wp2
  go_ret
  exact ⟨rfl, rfl⟩
end Go.Proofs.YtjllmladhjbnaaaDoor
/- Package tree: the first of the least size, -1 of none; plans by hashing. -/
namespace Go.Proofs.YtjllmladhjbnaaaDoor
open Go.RowKit Go.Shelf
attribute [local go_sem] Oper.semAt_some
/-- Whether there was one; the least size so far. -/
def anyB (l : List Int) : Bool := !l.isEmpty
def lowI (f : Int → Int) (l : List Int) : Int := if l = [] then 0 else f (leastP f l)
def vls {xs : List Int} (pre : List {x : Int // x ∈ xs}) : List Int := pre.map (·.1)
theorem vls_snoc {xs : List Int} (pre : List {x : Int // x ∈ xs}) (x : {x : Int // x ∈ xs}) : vls (pre ++ [x]) = vls pre ++ [x.1] := by simp [vls]
set_option maxRecDepth 100000 in
set_option maxHeartbeats 4000000 in
theorem tleast_any (pb g m c : Nat) (cb : Array Value) (A : Option Addr) (xs : List Int) (f : Int → Int) (w : World) (hpb : w.cell? ⟨pb, 0, none⟩ = some (.slice A m c)) (hxs : Nums .i64 w A m xs) (hm : m ≤ 1000000)
    (eg : ∀ args w, (callFunc g args).run Tryd.prog w = .ok (.enter g args) w)
    (hstep : ∀ x ∈ xs, ∀ W, Below w.heap.size w W → Calls Tryd.prog g (#[.int .i64 x] ++ cb) W fun e W' => e = .returned (.int .i64 (f x)) ∧ Below W.heap.size W W') :
    Calls Tryd.prog 27 #[.func (.func 46) #[] #[.pointer (some ⟨pb, 0, none⟩)], .func (.func g) #[] cb, .int .i64 (-1)] w fun e w' => e = .returned (.int .i64 (leastP f xs)) ∧ Below w.heap.size w w' := by
  refine callsIn_wide (n := 9).1 ?_
  have Hst := Lib.hid hstep
  have HXS := Lib.hid hxs
  have HPB := Lib.hid hpb
  clear hstep hxs hpb
  refine callsIn_of_wp_marks Tryd.func27 rfl trivial ?_ rfl
  simp only [Tryd.ntmps27, List.size_toArray, List.length_cons, List.length_nil, Nat.reduceAdd, Nat.reduceSub, Array.replicate_succ, Array.replicate_zero, List.push_toArray, List.append_toArray, List.nil_append, List.cons_append]
  gi_wp2
  have b0 := (((Boxed.new w 46 (.func (.func g) #[] cb)).alloc (.cells #[.int .i64 (-1)] 3)).alloc (.cells #[.bool false] 4)).alloc (.cells #[.int .i64 0] 3)
  have b1 := ((Boxed.new (w.alloc (.cells #[.func (.func g) #[] cb] 46)) 3 (.int .i64 (-1))).alloc (.cells #[.bool false] 4)).alloc (.cells #[.int .i64 0] 3)
  have b2 := (Boxed.new ((w.alloc (.cells #[.func (.func g) #[] cb] 46)).alloc (.cells #[.int .i64 (-1)] 3)) 4 (.bool false)).alloc (.cells #[.int .i64 0] 3)
  have b3 := Boxed.new (((w.alloc (.cells #[.func (.func g) #[] cb] 46)).alloc (.cells #[.int .i64 (-1)] 3)).alloc (.cells #[.bool false] 4)) 3 (.int .i64 0)
  simp only [World.size_alloc] at b1 b2 b3
  have hB : Below w.heap.size w ((((w.alloc (.cells #[.func (.func g) #[] cb] 46)).alloc (.cells #[.int .i64 (-1)] 3)).alloc (.cells #[.bool false] 4)).alloc (.cells #[.int .i64 0] 3)) := ((((Below.refl _ w).alloc (Nat.le_refl _) _).alloc (by simp) _).alloc (by simp; omega) _).alloc (by simp; omega) _
  have hz : ((((w.alloc (.cells #[.func (.func g) #[] cb] 46)).alloc (.cells #[.int .i64 (-1)] 3)).alloc (.cells #[.bool false] 4)).alloc (.cells #[.int .i64 0] 3)).heap.size = w.heap.size + 4 := by simp
  generalize (((w.alloc (.cells #[.func (.func g) #[] cb] 46)).alloc (.cells #[.int .i64 (-1)] 3)).alloc (.cells #[.bool false] 4)).alloc (.cells #[.int .i64 0] 3) = w4 at b0 b1 b2 b3 hB hz ⊢
  refine range_goes rfl (by omega) (gf := 46) (lb := #[.pointer (some ⟨pb, 0, none⟩)]) rfl trivial (enters_of Tryd.func46 (by kernel_rfl) rfl)
    (encs := fun x : {x : Int // x ∈ xs} => #[Value.int .i64 x.1]) (n₀ := w.heap.size) (N := m) (S := fun ys => vls ys = xs) (by omega) (fun _ => rfl)
    (fun l J W hW hY h0 => values1_any 8 (by omega) l pb w.heap.size m c A xs J w W HPB.out HXS.out rfl (hB.trans (hW.mono (by omega))) hm hY h0)
    (fun pre W => ((Boxed W w.heap.size 46 (.func (.func g) #[] cb) ∧ Boxed W (w.heap.size + 1) 3 (.int .i64 (leastP f (vls pre)))) ∧ Boxed W (w.heap.size + 1 + 1) 4 (.bool (anyB (vls pre))) ∧ Boxed W (w.heap.size + 1 + 1 + 1) 3 (.int .i64 (lowI f (vls pre)))) ∧ Below w.heap.size w4 W)
    ⟨fun pre W o h => ⟨⟨⟨h.1.1.1.alloc _, h.1.1.2.alloc _⟩, h.1.2.1.alloc _, h.1.2.2.alloc _⟩, h.2.alloc (Nat.le_trans (by omega) h.2.size) _⟩,
     fun pre W l o o' h hl ho hc => ⟨⟨⟨(World.putObj_heap_other (by omega)).trans h.1.1.1, (World.putObj_heap_other (by omega)).trans h.1.1.2⟩, (World.putObj_heap_other (by omega)).trans h.1.2.1, (World.putObj_heap_other (by omega)).trans h.1.2.2⟩, h.2.trans (below_put _ (by omega) ho)⟩⟩
    ⟨⟨⟨b0, b1⟩, b2, b3⟩, Below.refl _ _⟩
    (fun x => { tmps := #[.func (.func 46) #[] #[.pointer (some ⟨pb, 0, none⟩)], .func (.func g) #[] cb, .int .i64 (-1), undef, .pointer (some ⟨w.heap.size, 0, none⟩), undef, .int .i64 0, .pointer (some ⟨w.heap.size + 1, 0, none⟩), .pointer (some ⟨w.heap.size + 1 + 1, 0, none⟩), .pointer (some ⟨w.heap.size + 1 + 1 + 1, 0, none⟩), .int .i64 x.1, undef, .int .i64 (-1), .func (.func 46) #[] #[.pointer (some ⟨pb, 0, none⟩)], .int .i64 x.1, undef, undef, undef, undef, undef, undef, undef, undef, undef, undef, undef, undef, undef], defers := [] }) ?assign ?body ?done
  case assign =>
    intro l x W K hK
    gi_wp2
    exact hK
  case done =>
    rintro D ys W hD hys ⟨⟨⟨-, hv⟩, -, -⟩, hBW⟩ hK
    have hc := hv.cell
    rw [hys] at hc
    replace hBW := hB.trans hBW
    have HBW := Lib.hid hBW
    have HK := Lib.hid hK
    clear hys hBW hv
    gi_wp2
    refine ⟨by simp, .inl ⟨_, _, rfl, run_takeDeferred HK.out, ?_⟩⟩
    exact ⟨_, results_tmp rfl _ _ _, rfl, HBW.out.trans (below_put _ (by omega) HK.out)⟩
  case body =>
    rintro l pre x W ⟨⟨⟨g0, g1⟩, g2, g3⟩, hBW⟩ hlt
    have hc0 := g0.cell
    have hB4 := hB.trans hBW
    have HS := Lib.hid (Hst.out x.1 x.2 W hB4)
    have hsn := leastP_snoc f (vls pre) x.1
    have hls : lowI f (vls pre ++ [x.1]) = f (leastP f (vls pre ++ [x.1])) := by unfold lowI; rw [if_neg (by simp)]
    have has : anyB (vls pre ++ [x.1]) = true := by unfold anyB; simp
    have HMP := Lib.hid (vls_snoc pre x)
    generalize (vls pre) = L at g1 g2 g3 hsn hls has HMP
    obtain ⟨bst, hbst⟩ : ∃ b, b = leastP f L := ⟨_, rfl⟩
    obtain ⟨fx, hfx⟩ : ∃ b, b = f x.1 := ⟨_, rfl⟩
    rw [← hbst] at g1 hsn
    rw [← hfx] at HS hsn
    have HSN := Lib.hid hsn
    have HLS := Lib.hid hls
    have HAS := Lib.hid has
    have HF := Lib.hid hfx
    have HBS := Lib.hid hbst
    clear hsn hls has hfx hbst
    have TK : ∀ w' : World, Below W.heap.size W w' → Boxed w' w.heap.size 46 (.func (.func g) #[] cb) → ∀ {v1 v2 v3 : Value}, Boxed w' (w.heap.size + 1) 3 v1 → Boxed w' (w.heap.size + 1 + 1) 4 v2 → Boxed w' (w.heap.size + 1 + 1 + 1) 3 v3 →
        leastP f (vls (pre ++ [x])) = x.1 → lowI f (vls (pre ++ [x])) = fx → anyB (vls (pre ++ [x])) = true →
        let w3 := ((w'.setCell ⟨w.heap.size + 1, 0, none⟩ (.int .i64 x.1)).setCell ⟨w.heap.size + 1 + 1 + 1, 0, none⟩ (.int .i64 fx)).setCell ⟨w.heap.size + 1 + 1, 0, none⟩ (.bool true)
        KeepsOthers W w3 ∧ Below w.heap.size W w3 ∧ (((Boxed w3 w.heap.size 46 (.func (.func g) #[] cb) ∧ Boxed w3 (w.heap.size + 1) 3 (.int .i64 (leastP f (vls (pre ++ [x]))))) ∧ Boxed w3 (w.heap.size + 1 + 1) 4 (.bool (anyB (vls (pre ++ [x])))) ∧ Boxed w3 (w.heap.size + 1 + 1 + 1) 3 (.int .i64 (lowI f (vls (pre ++ [x]))))) ∧ Below w.heap.size w4 w3) := by
      intro w' hb k0 v1 v2 v3 k1 k2 k3 e1 e2 e3 w3
      rw [e1, e2, e3]
      have hs : Below w.heap.size W w3 := (((hb.mono hB4.size).setCell (p := ⟨w.heap.size + 1, 0, none⟩) (by show w.heap.size ≤ w.heap.size + 1; omega) _).setCell (p := ⟨w.heap.size + 1 + 1 + 1, 0, none⟩) (by show w.heap.size ≤ w.heap.size + 1 + 1 + 1; omega) _).setCell (p := ⟨w.heap.size + 1 + 1, 0, none⟩) (by show w.heap.size ≤ w.heap.size + 1 + 1; omega) _
      exact ⟨(((KeepsOthers.mk hb.size fun k o hk _ => (hb.block k (Array.getElem?_eq_some_iff.1 hk).1).trans hk).trans (KeepsOthers.setCell _ _ _)).trans (KeepsOthers.setCell _ _ _)).trans (KeepsOthers.setCell _ _ _), hs,
        ⟨⟨((k0.other (by omega) _).other (by omega) _).other (by omega) _, ((k1.set _).other (by omega) _).other (by omega) _⟩, ((k2.other (by omega) _).other (by omega) _).set _, ((k3.other (by omega) _).set _).other (by omega) _⟩, hBW.trans hs⟩
    by_cases hL : L = []
    · subst hL
      have e2 : anyB ([] : List Int) = false := rfl
      rw [e2] at g2
      gi_wp2_with (refine ⟨trivial, ?_⟩; refine (CallsIn.inRound l (callsIn_wide.2 HS.out)).mono ?_; rintro e w' ⟨rfl, hb⟩; have k0 : Boxed w' w.heap.size 46 (.func (.func g) #[] cb) := (hb.block _ g0.lt).trans g0; have k1 : Boxed w' (w.heap.size + 1) 3 (.int .i64 bst) := (hb.block _ g1.lt).trans g1; have k2 : Boxed w' (w.heap.size + 1 + 1) 4 (.bool false) := (hb.block _ g2.lt).trans g2; have k3 : Boxed w' (w.heap.size + 1 + 1 + 1) 3 (.int .i64 (lowI f [])) := (hb.block _ g3.lt).trans g3; have c1 := k1.cell; have c2 := k2.cell; have c3 := k3.cell; have f1 := k1.frozen; have f2 := k2.frozen; have f3 := k3.frozen)
      clear c1 c2 c3 f1 f2 f3
      have hp2 : leastP f (vls (pre ++ [x])) = x.1 := by rw [HMP.out, HSN.out]; simp
      have hp3 : lowI f (vls (pre ++ [x])) = fx := by rw [HMP.out, HLS.out, ← HMP.out, hp2, HF.out]
      have hp4 : anyB (vls (pre ++ [x])) = true := by rw [HMP.out, HAS.out]
      exact TK w' hb k0 k1 k2 k3 hp2 hp3 hp4
    · have e2 : anyB L = true := by unfold anyB; cases L with
        | nil => exact absurd rfl hL
        | cons a t => rfl
      have e3 : lowI f L = f bst := by unfold lowI; rw [if_neg hL, HBS.out]
      rw [e2] at g2
      rw [e3] at g3
      obtain ⟨fb, hfb⟩ : ∃ b, b = f bst := ⟨_, rfl⟩
      rw [← hfb] at g3
      have HFB := Lib.hid hfb
      clear e2 e3 hfb
      by_cases hlt2 : fx < fb
      · gi_wp2_with (refine ⟨trivial, ?_⟩; refine (CallsIn.inRound l (callsIn_wide.2 HS.out)).mono ?_; rintro e w' ⟨rfl, hb⟩; have k0 : Boxed w' w.heap.size 46 (.func (.func g) #[] cb) := (hb.block _ g0.lt).trans g0; have k1 : Boxed w' (w.heap.size + 1) 3 (.int .i64 bst) := (hb.block _ g1.lt).trans g1; have k2 : Boxed w' (w.heap.size + 1 + 1) 4 (.bool true) := (hb.block _ g2.lt).trans g2; have k3 : Boxed w' (w.heap.size + 1 + 1 + 1) 3 (.int .i64 fb) := (hb.block _ g3.lt).trans g3; have c1 := k1.cell; have c2 := k2.cell; have c3 := k3.cell; have f1 := k1.frozen; have f2 := k2.frozen; have f3 := k3.frozen)
        clear c1 c2 c3 f1 f2 f3
        have hp2 : leastP f (vls (pre ++ [x])) = x.1 := by rw [HMP.out, HSN.out]; rw [if_pos (.inr (by rw [← HFB.out]; exact hlt2))]
        have hp3 : lowI f (vls (pre ++ [x])) = fx := by rw [HMP.out, HLS.out, ← HMP.out, hp2, HF.out]
        have hp4 : anyB (vls (pre ++ [x])) = true := by rw [HMP.out, HAS.out]
        exact TK w' hb k0 k1 k2 k3 hp2 hp3 hp4
      · gi_wp2_with (refine ⟨trivial, ?_⟩; refine (CallsIn.inRound l (callsIn_wide.2 HS.out)).mono ?_; rintro e w' ⟨rfl, hb⟩; have k0 : Boxed w' w.heap.size 46 (.func (.func g) #[] cb) := (hb.block _ g0.lt).trans g0; have k1 : Boxed w' (w.heap.size + 1) 3 (.int .i64 bst) := (hb.block _ g1.lt).trans g1; have k2 : Boxed w' (w.heap.size + 1 + 1) 4 (.bool true) := (hb.block _ g2.lt).trans g2; have k3 : Boxed w' (w.heap.size + 1 + 1 + 1) 3 (.int .i64 fb) := (hb.block _ g3.lt).trans g3; have c1 := k1.cell; have c2 := k2.cell; have c3 := k3.cell; have f1 := k1.frozen; have f2 := k2.frozen; have f3 := k3.frozen)
        clear c1 c2 c3 f1 f2 f3
        have hp2 : leastP f (vls (pre ++ [x])) = bst := by rw [HMP.out, HSN.out, if_neg (by rw [← HFB.out]; exact fun h => h.elim hL (fun h => by omega))]
        have hp3 : lowI f (vls (pre ++ [x])) = fb := by rw [HMP.out, HLS.out, ← HMP.out, hp2, HFB.out]
        have hp4 : anyB (vls (pre ++ [x])) = true := by rw [HMP.out, HAS.out]
        have hs : Below w.heap.size W w' := hb.mono hB4.size
        refine ⟨KeepsOthers.mk hb.size fun k o hk _ => (hb.block k (Array.getElem?_eq_some_iff.1 hk).1).trans hk, hs, ?_⟩
        dsimp only
        rw [hp2, hp3, hp4]
        exact ⟨⟨⟨k0, k1⟩, k2, k3⟩, hBW.trans hs⟩
end Go.Proofs.YtjllmladhjbnaaaDoor
/- Package tree: plans by hashing. -/
namespace Go.Proofs.YtjllmladhjbnaaaDoor
open Go.RowKit Go.Shelf
attribute [local go_sem] Oper.semAt_some
set_option maxHeartbeats 2000000 in
theorem psize_any (A : Option Addr) (q c mm bs br : Nat) (cs : List Int) (n k : Int) (w : World) (h : FQ w A q mm cs n) (hx : Bx w bs #[.slice A q c, .int .i64 mm]) (hr : w.cell? ⟨br, 0, none⟩ = some (.int .i64 n)) (h1 : 0 ≤ k) (h2 : k ≤ fullB q) :
    Calls Tryd.prog 22 #[.int .i64 k, .pointer (some ⟨bs, 0, none⟩), .pointer (some ⟨br, 0, none⟩)] w fun e w' => e = .returned (.int .i64 (sizeB cs n k)) ∧ Below w.heap.size w w' := by
  have H := Lib.hid (size_any A q c mm cs n k w h.nums h.q1 h.q4 h.m2 h.c h.n0 h.n3 h1 h2 h.tab h.w1)
  have x0 : w.cell? ⟨bs, 0, none⟩ = some (.slice A q c) := hx 0 _ rfl
  have x1 : w.cell? ⟨bs, 1, none⟩ = some (.int .i64 mm) := hx 1 _ rfl
  clear h hx
  go_enter Tryd.func22, Tryd.ntmps22
  go_wp2_with fail
  refine H.out.mono ?_
  rintro e w1 ⟨rfl, hb1⟩
  have HB1 := Lib.hid hb1
  clear hb1
  go_wp2
  go_ret
  exact ⟨rfl, HB1.out⟩
theorem treeM_at {cs : List Int} {n : Int} {k : Nat} {s : Int} (h : (setsL cs.length)[k]? = some s) : (treeM cs n).take (k + 1) = (treeM cs n).take k ++ [treeE cs n s] := by
  rw [List.take_add_one]
  congr 1
  unfold treeM
  rw [List.getElem?_map, h]; rfl
set_option maxRecDepth 100000 in
set_option maxHeartbeats 8000000 in
theorem tplan_any (A : Option Addr) (q c mm : Nat) (cs : List Int) (n : Int) (w : World) (h : FQ w A q mm cs n) (hck : checkB cs (mm : Int) = true) :
    Calls Tryd.prog 12 #[.agg #[.slice A q c, .int .i64 mm], .int .i64 n] w fun e w' => ∃ v, e = .returned v ∧ OE w.heap.size w' v (treeM cs n) ∧ Below w.heap.size w w' := by
  have hcl := h.len
  have q1 := h.q1
  have q4 := h.q4
  have n0 := h.n0
  have n3 := h.n3
  have m2 := h.m2
  obtain ⟨wa, hwa⟩ : ∃ wa, wa = w.alloc (.cells #[.slice A q c, .int .i64 mm] 25) := ⟨_, rfl⟩
  have hba : Below w.heap.size w wa := by rw [hwa]; exact below_box w _
  have hxa : Bx wa w.heap.size #[.slice A q c, .int .i64 mm] := by rw [hwa]; exact Bx.new _ _ _
  have hza : wa.heap.size = w.heap.size + 1 := by rw [hwa]; simp
  obtain ⟨w0, hw0⟩ : ∃ w0, w0 = wa.alloc (.cells #[.int .i64 n] 3) := ⟨_, rfl⟩
  have hb0' : Below wa.heap.size wa w0 := by rw [hw0]; exact below_box wa _
  have hr0 : w0.cell? ⟨w.heap.size + 1, 0, none⟩ = some (.int .i64 n) := by rw [hw0, ← hza]; exact cell_new _ _ _
  have hx0 := hxa.keep (Keeps.of_below hb0')
  have hb0 : Below w.heap.size w w0 := hba.trans (hb0'.mono hba.size)
  have h0 := h.below hb0 (Nat.le_refl _)
  have HCh := Lib.hid (Check_any A q c cs (mm : Int) w0 h0.nums (by omega) (by constructor <;> omega))
  rw [hck] at HCh
  have HF := Lib.hid h
  have HB0 := Lib.hid hb0
  have HX0 := Lib.hid hx0
  have x0 : w0.cell? ⟨w.heap.size, 0, none⟩ = some (.slice A q c) := hx0 0 _ rfl
  have x1 : w0.cell? ⟨w.heap.size, 1, none⟩ = some (.int .i64 mm) := hx0 1 _ rfl
  have HR0 := Lib.hid hr0
  have HW0 := Lib.hid (hw0.trans (by rw [hwa]))
  obtain ⟨N, hN⟩ : ∃ N, N = 2 ^ q := ⟨_, rfl⟩
  have hsl := setsL_len q q1 q4
  have n16 := pow_16 q q4
  rw [← hN] at hsl n16
  have HNN := Lib.hid hN
  have HSL := Lib.hid hsl
  clear h hba hxa hza hb0' hr0 hx0 hb0 h0 hck hw0 hwa hN hsl
  go_enter Tryd.func12, Tryd.ntmps12
  go_wp2_with fail
  rw [← HW0.out]
  go_wp2_with fail
  refine HCh.out.mono ?_
  rintro e w1 ⟨rfl, hb1⟩
  have hb1w := HB0.out.trans (hb1.mono HB0.out.size)
  have HB1 := Lib.hid hb1w
  have hf1 := HF.out.below hb1w (Nat.le_refl _)
  have hx1 := HX0.out.keep (Keeps.of_below hb1)
  have HX1 := Lib.hid hx1
  have HR1 := Lib.hid ((Keeps.of_below hb1) _ _ HR0.out)
  have HS := Lib.hid (sets_any q w1 q1 q4 hf1.tab hf1.w1)
  have y0 : w1.cell? ⟨w.heap.size, 0, none⟩ = some (.slice A q c) := hx1 0 _ rfl
  have y1 : w1.cell? ⟨w.heap.size, 1, none⟩ = some (.int .i64 mm) := hx1 1 _ rfl
  have y2 := HR1.out
  clear hb1 hb1w hf1 hx1 x0 x1
  go_wp2_with fail
  refine HS.out.mono ?_
  rintro e w2 ⟨g, rfl, hn, hb2, hg⟩
  rw [← HNN.out] at hn ⊢
  have HN := Lib.hid hn
  have HB2 := Lib.hid (HB1.out.trans (hb2.mono HB1.out.size))
  have HX2 := Lib.hid (HX1.out.keep (Keeps.of_below hb2))
  have HR2 := Lib.hid ((Keeps.of_below hb2) _ _ HR1.out)
  clear hn hb2 y0 y1 y2
  go_wp2_with fail
  go_loopw [6, 27] (fun p i wr => ∃ k : Nat, i = .int .i64 k ∧ k ≤ N ∧ OE w2.heap.size wr p ((treeM cs n).take k) ∧ Below w2.heap.size w2 wr) (fun _ i _ => N - (intOf i).toNat)
  case atStart => exact ⟨0, rfl, Nat.zero_le _, OE.nil _ _, Below.refl _ _⟩
  case round =>
    obtain ⟨k, rfl, hk, hoe, hb⟩ := hrel
    rename World => wr
    have HOE := Lib.hid hoe
    have HB := Lib.hid hb
    have hz := hb.size
    clear hoe hb
    by_cases hkN : k < N
    · have kw := Keeps.of_below HB.out
      obtain ⟨ad, s, e1, hs, -, hcs⟩ := (HN.out.keep kw).at_ hkN
      injection e1 with e1
      subst e1
      rw [add0] at hcs
      obtain ⟨s0, s1⟩ := sets_bd q q1 q4 s (List.mem_of_getElem? hs)
      have hbw := HB2.out.trans (HB.out.mono HB2.out.size)
      have hf := HF.out.below hbw (Nat.le_refl _)
      have HFR := Lib.hid hf
      have HPA := Lib.hid (par_nums s q wr s0 s1 q1 q4 hf.tab hf.w1)
      have hxr := HX2.out.keep kw
      have HXR := Lib.hid hxr
      have HRR := Lib.hid (kw _ _ HR2.out)
      have z0 : wr.cell? ⟨w.heap.size, 0, none⟩ = some (.slice A q c) := hxr 0 _ rfl
      have hpb : ∀ x ∈ parL s q, 0 ≤ x ∧ x ≤ fullB q := fun x hx => sets_bd q q1 q4 x (par_lvl q q1 q4 s (List.mem_of_getElem? hs) x hx).2
      have HPB := Lib.hid hpb
      have hs' := hs
      rw [← hcl] at hs'
      have HTK := Lib.hid (treeM_at (n := n) hs')
      have hlen : ((treeM cs n).take k).length ≤ 16 := by rw [List.length_take]; omega
      have HLN := Lib.hid hlen
      have hln2 : (parL s q).length ≤ 100 := by unfold parL; rw [List.length_map]; have := dimsL_le (lackI s q); omega
      have hee : treeE cs n s = ⟨s, leastP (sizeB cs n) (parL s q), false⟩ := by unfold treeE; rw [hcl]
      have HEE := Lib.hid hee
      obtain ⟨M, hM⟩ : ∃ M, M = (parL s q).length := ⟨_, rfl⟩
      rw [← hM] at HPA hln2
      have k0 : (0 : Int) ≤ (k : Int) := by omega
      have k1 : (k : Int) < (N : Int) := by omega
      clear kw hs hs' hbw hf hxr hpb hlen hee hM
      go_wp2_with fail
      refine HPA.out.mono ?_
      rintro e w3 ⟨P, cp, rfl, hpn, -, hb3⟩
      have hb13 := HB.out.trans (hb3.mono hz)
      have HB13 := Lib.hid hb13
      have HOE3 := Lib.hid (HOE.out.below hb3)
      have HPN := Lib.hid hpn
      have HFR3 := Lib.hid (HFR.out.below hb3 (Nat.le_refl _))
      have HX3 := Lib.hid (HXR.out.keep (Keeps.of_below hb3))
      have HR3 := Lib.hid ((Keeps.of_below hb3) _ _ HRR.out)
      have HV := Lib.hid (values_any P M cp w3)
      clear hpn hb3 hb13 z0 hcs
      go_wp2_with fail
      refine HV.out.mono ?_
      rintro e w4 ⟨rfl, hw4⟩
      have hb34 : Below w3.heap.size w3 w4 := by rw [hw4]; exact below_box w3 _
      have hc4 : w4.cell? ⟨w3.heap.size, 0, none⟩ = some (.slice P M cp) := by rw [hw4]; exact cell_new _ _ _
      have k34 := Keeps.of_below hb34
      have HL := Lib.hid (tleast_any w3.heap.size 22 M cp #[.pointer (some ⟨w.heap.size, 0, none⟩), .pointer (some ⟨w.heap.size + 1, 0, none⟩)] P (parL s q) (sizeB cs n) w4 hc4 (HPN.out.keep k34) (by omega)
        (enters_of Tryd.func22 (by kernel_rfl) rfl) (fun x hx W hB => psize_any A q c mm w.heap.size (w.heap.size + 1) cs n x W ((HFR3.out.below hb34 (Nat.le_refl _)).below hB (Nat.le_refl _)) ((HX3.out.keep k34).keep (Keeps.of_below hB)) ((Keeps.of_below hB) _ _ (k34 _ _ HR3.out)) (HPB.out x hx).1 (HPB.out x hx).2))
      have HB14 := Lib.hid (HB13.out.trans (hb34.mono HB13.out.size))
      have HOE4 := Lib.hid (HOE3.out.below hb34)
      obtain ⟨lp, hlp⟩ : ∃ lp, lp = leastP (sizeB cs n) (parL s q) := ⟨_, rfl⟩
      have hee := HEE.out
      rw [← hlp] at HL hee
      have htk := HTK.out
      rw [hee] at htk
      have HTK2 := Lib.hid htk
      clear hw4 hb34 hc4 k34 hlp hee htk
      go_wp2_with fail
      refine HL.out.mono ?_
      rintro e w5 ⟨rfl, hb5⟩
      have hb15 := HB14.out.trans (hb5.mono HB14.out.size)
      obtain ⟨v', w6, hrun, hoe6, -, hb6⟩ := oe_push ⟨s, lp, false⟩ (HOE4.out.below hb5) (OI.nil w5.heap.size w5) (by have := HLN.out; omega) hb15.size
      have HB6 := Lib.hid (hb15.trans hb6)
      rw [← HTK2.out] at hoe6
      have HOE6 := Lib.hid hoe6
      have Hrun := Lib.hid hrun
      clear hb5 hb15 hrun hoe6 hb6
      go_wp2_with (at_builtin; have _t := Hrun; refine wpList_append_eq rfl (.tmp 37) (.tmp 43) 30 rfl _ _ _ _ rfl rfl Hrun.out ?_; clear _t Hrun)
      go_roundw
      case rel => exact ⟨k + 1, by go_num, by omega, HOE6.out, HB6.out⟩
      case measure => simp [intOf]; omega
    · obtain rfl : k = N := by omega
      have hall : (treeM cs n).take k = treeM cs n := List.take_of_length_le (by rw [tree_len, hcl, HSL.out]; omega)
      have hoe := HOE.out
      rw [hall] at hoe
      have HO2 := Lib.hid (hoe.mono HB2.out.size)
      have HBW := Lib.hid (HB2.out.trans (HB.out.mono HB2.out.size))
      clear hoe hall
      go_wp2
      go_ret
      exact ⟨_, rfl, HO2.out, HBW.out⟩
end Go.Proofs.YtjllmladhjbnaaaDoor
