/- The law SortsCost. -/
import Derived.Test.YtbmdiiifhccebaaDoorKn10
import Derived.Test.YtbmdiiifhccebaaDoorL8
import Derived.Test.YtbmdiiifhccebaaDoorRegion
import Derived.Test.YtbmdiiifhccebaaDoorRegP
import Derived.IntWalk
import Derived.Test.YtbmdiiifhccebaaDoorRcost
import Derived.Test.YtbmdiiifhccebaaDoorOth
namespace Go.Proofs.YtbmdiiifhccebaaDoor
open Go.RowKit Go.Shelf
attribute [local go_sem] Oper.semAt_some
theorem set_same {α : Type} {l : List α} {i : Nat} {v : α} (h : l[i]? = some v) : l.set i v = l := by
  obtain ⟨h1, h2⟩ := List.getElem?_eq_some_iff.1 h
  rw [← h2]
  exact List.set_getElem_self h1
/-- An edge's scan is turned. -/
theorem OE.setS {B g c k : Nat} {w : World} {es : List Ed} {e : Ed} (b : Bool) (h : OE B w (.slice (some ⟨g, 0, none⟩) es.length c) es) (he : es[k]? = some e) :
    OE B (w.setCell ⟨g, k * 3 + 2, none⟩ (.bool b)) (.slice (some ⟨g, 0, none⟩) es.length c) (es.set k ⟨e.s, e.p, b⟩) := by
  have hk := (List.getElem?_eq_some_iff.1 he).1
  have hset : (eCs es).set (k * 3 + 2) (.bool b) = eCs (es.set k ⟨e.s, e.p, b⟩) := by
    rw [← eCs_set ⟨e.s, e.p, b⟩ hk]
    have a := eCs_at es k 0 e (by omega) he
    have a2 := eCs_at es k 1 e (by omega) he
    rw [set_same (show (eCs es)[k * 3]? = some (.int .i64 e.s) by simpa [eC] using a), set_same (show (eCs es)[k * 3 + 1]? = some (.int .i64 e.p) by simpa [eC] using a2)]
  unfold OE at h ⊢
  rw [List.length_set]
  rcases h.2 with ⟨e0, _⟩ | ⟨gg, cap, cur, e0, a1, a2, a3, a4, a5, a6⟩
  · cases e0
  · injection e0 with e0 e1 e2
    injection e0 with e0
    injection e0 with e0
    subst e0 e2
    refine ⟨by rw [eCs_len, List.length_set], .inr ⟨g, c, cur.setIfInBounds (k * 3 + 2) (.bool b), rfl, a1, ?_, a3, a4, by simpa using a5, ?_⟩⟩
    · simp [World.setCell, Array.getElem?_modify, a2]
    · rw [Array.toList_setIfInBounds, List.take_set, a6, hset]
theorem set_map {es : List Ed} {k : Nat} {e e' : Ed} (he : es[k]? = some e) (hs : e'.s = e.s) : (es.set k e').map (·.s) = es.map (·.s) := by
  have e1 : (es.set k e').map (·.s) = (es.map (·.s)).set k e'.s := by rw [List.map_set]
  rw [e1, hs]
  exact set_same (by rw [List.getElem?_map, he]; rfl)
/-- A scan for a sort: it is right still. -/
theorem unscan_right {d : Nat} {es : List Ed} {k : Nat} {e : Ed} (h : RightP d es) (he : es[k]? = some e) (hk : 1 ≤ k) : RightP d (es.set k ⟨e.s, e.p, false⟩) := by
  have hl := (List.getElem?_eq_some_iff.1 he).1
  refine ⟨by rw [set_map (e' := ⟨e.s, e.p, false⟩) he rfl]; exact h.sets, ?_, fun x hx => ?_, ?_⟩
  · rw [List.head?_eq_getElem?, List.getElem?_set_ne (by omega), ← List.head?_eq_getElem?]
    exact h.head
  · obtain ⟨j, hj⟩ := List.mem_iff_getElem?.1 hx
    rw [List.getElem?_tail] at hj
    by_cases hjk : k = j + 1
    · subst hjk
      rw [List.getElem?_set_self hl] at hj
      injection hj with hj
      subst hj
      exact h.par e (List.mem_iff_getElem?.2 ⟨j, by rw [List.getElem?_tail]; exact he⟩)
    · rw [List.getElem?_set_ne hjk] at hj
      exact h.par x (List.mem_iff_getElem?.2 ⟨j, by rw [List.getElem?_tail]; exact hj⟩)
  · rw [List.pairwise_iff_getElem]
    have ho := List.pairwise_iff_getElem.1 h.once
    intro i j hi hj hij ha hb
    rw [List.length_set] at hi hj
    rw [List.getElem_set] at ha hb
    rw [List.getElem_set, List.getElem_set]
    split at ha
    · cases ha
    · split at hb
      · cases hb
      · rename_i h1 h2
        rw [if_neg h1, if_neg h2]
        exact ho i j hi hj hij ha hb
theorem sum_set_at {L : List Int} {k : Nat} {x y : Int} (h : L[k]? = some x) : (L.set k y).sum = L.sum - x + y := by
  induction L generalizing k with
  | nil => simp at h
  | cons a t ih =>
    cases k with
    | zero => simp at h; subst h; simp; omega
    | succ k => have := ih (k := k) (by simpa using h); simp only [List.set_cons_succ, List.sum_cons]; omega
theorem unscan_cost {cs : List Int} {n : Int} {es : List Ed} {k : Nat} {e : Ed} (g : Good cs n) (hn : 1 ≤ n) (h : RightP cs.length es) (he : es[k]? = some e) (hk : 1 ≤ k) (hs : e.sc = true) : costP cs n es < costP cs n (es.set k ⟨e.s, e.p, false⟩) := by
  obtain ⟨j, rfl⟩ : ∃ j, k = j + 1 := ⟨k - 1, by omega⟩
  have ht : e ∈ es.tail := List.mem_iff_getElem?.2 ⟨j, by rw [List.getElem?_tail]; exact he⟩
  obtain ⟨p0, p1⟩ := right_p g.d1 g.d4 h ht
  have hgt := sortB_gt g.c p0 p1 g.d4 hn g.n3
  unfold costP
  rw [List.map_set, sum_set_at (x := costE cs n e) (by rw [List.getElem?_map, he]; rfl)]
  have e1 : costE cs n e = sizeB cs n e.p := by unfold costE; rw [if_neg (by omega), if_pos hs]
  have e2 : costE cs n ⟨e.s, e.p, false⟩ = sortB cs n e.p := by unfold costE; rw [if_neg (by show ¬ e.p < 0; omega)]; rfl
  rw [e1, e2]
  omega
theorem costB_right {cs : List Int} {n : Int} {es : List Ed} (d1 : 1 ≤ cs.length) (d4 : cs.length ≤ 4) (h : RightP cs.length es) : costB cs n es = costP cs n es := by
  unfold costB
  rw [if_pos ((plan_iff d1 d4 es).2 h)]
set_option maxRecDepth 100000 in
set_option maxHeartbeats 8000000 in
theorem sortsCost_walk (a0 : Int) (a1 : Option Addr) (len1 cap1 : Nat) (z1 : List Int) (a2 : Int) (a3 : Option Addr) (len3 cap3 : Nat) (z3 : List Int) (a4 : Int) (w : World) (h0 : inK .i64 a0) (w1 : IsRow .i64 w a1 len1 cap1 z1) (h2 : inK .i64 a2) (w3 : IsRow .i64 w a3 len3 cap3 z3) (h4 : inK .i64 a4) (hT : Tab w) (hw1 : 1 < w.heap.size) :
    Calls Tryd.prog 6 #[.int .i64 a0, .slice a1 len1 cap1, .int .i64 a2, .slice a3 len3 cap3, .int .i64 a4] w fun e w' => e = .returned (.bool true) ∧ Below w.heap.size w w' := by
  obtain ⟨n1, lc1, cm1⟩ := w1.nums
  obtain ⟨n3, lc3, cm3⟩ := w3.nums
  have N3 := Lib.hid n3
  clear w3 n3
  have N1 := Lib.hid n1
  have HKn := Lib.hid (known10_any w hT hw1)
  have HT := Lib.hid hT
  clear w1 n1 hT
  go_enter Tryd.func6, Tryd.ntmps6
  go_wp2_with fail
  refine HKn.out.mono ?_
  rintro e w1 ⟨rfl, hb1⟩
  have Hb1 := Lib.hid hb1
  clear hb1 HKn
  go_wp2_with fail
  refine (Facts_res a0 0 a1 none len1 cap1 0 0 _ [] w1 (N1.out.keep (Keeps.of_below Hb1.out)) (Nums.nil _ _ _) (by omega) (by omega) h0 (by constructor <;> omega)).mono ?_
  rintro e w2 ⟨A, c, D, d, C, q, mm, m, cs, l, rfl, hF⟩
  obtain ⟨k1, k2, k3⟩ : 1 ≤ q ∧ q ≤ 4 ∧ mm ≤ 2 := ⟨hF.q1, hF.q4, hF.m2⟩
  have hb2 : Below w.heap.size w w2 := Hb1.out.trans (hF.below.mono Hb1.out.size)
  have hck : checkB cs (mm : Int) = true := by rw [hF.ecs, hF.emm]; exact fCards_check _ _ _
  have hcl := hF.eq
  obtain ⟨W3, hW3⟩ : ∃ W3, W3 = w2.alloc (.cells #[.slice A q c, .int .i64 mm] 32) := ⟨_, rfl⟩
  have hb3 : Below w.heap.size w W3 := by rw [hW3]; exact hb2.alloc hb2.size _
  have hbx : Bx W3 w2.heap.size #[.slice A q c, .int .i64 mm] := by rw [hW3]; exact Bx.new _ _ _
  have hnq : Nums .i64 W3 A q cs := by rw [hW3]; exact hF.nums.keep (Keeps.of_below (below_box w2 _))
  have HFQ := Lib.hid (fun (n : Int) (W : World) (hb : Below W3.heap.size W3 W) (n0 : 0 ≤ n) (n3 : n ≤ 300) => (⟨hnq.keep (Keeps.of_below hb), k1, k2, k3, hF.c16, n0, n3, HT.out.below (hb3.trans (hb.mono hb3.size)) hw1, by have := hb3.size; have := hb.size; omega⟩ : FQ W A q mm cs n))
  have HGD := Lib.hid (fun (n : Int) (n0 : 0 ≤ n) (n3 : n ≤ 300) => (⟨hF.c16, by omega, by omega, n0, n3⟩ : Good cs n))
  have HNQ := Lib.hid hnq
  have HCK := Lib.hid hck
  have HB3 := Lib.hid hb3
  have HBX := Lib.hid hbx
  have HW3 := Lib.hid hW3
  have hg3 : w2.heap.size < W3.heap.size := block_lt (hbx 0 _ rfl)
  clear hF hnq hb3 hb2 hbx hck hW3
  have HWI := Lib.hid (lwithin10 a2 300 W3 h2 (by omega) (by omega))
  obtain ⟨r, hr⟩ : ∃ r, r = a2 % 300 := ⟨_, rfl⟩
  rw [← hr] at HWI
  have r0' : 0 ≤ r := by omega
  have r3' : r < 300 := by omega
  obtain ⟨n, hn⟩ : ∃ n, n = 1 + r := ⟨_, rfl⟩
  have hnw : IntKind.i64.wrap (1 + r) = n := by rw [hn]; exact IntWalk.i64_in _ (by omega)
  have n1 : 1 ≤ n := by omega
  have r0 : 0 ≤ n := by omega
  have r3 : n ≤ 300 := by omega
  have x0 : W3.cell? ⟨w2.heap.size, 0, none⟩ = some (.slice A q c) := HBX.out 0 _ rfl
  have x1 : W3.cell? ⟨w2.heap.size, 1, none⟩ = some (.int .i64 mm) := HBX.out 1 _ rfl
  have hg := HGD.out n r0 r3
  have HG := Lib.hid hg
  have hro := oth_right q k1 k2 (z3.take len3)
  have hco := costB_right (cs := cs) (n := n) (es := othM q (z3.take len3)) (by omega) (by omega) (by rw [hcl]; exact hro)
  have HOT := Lib.hid (fun W hW => other_any q a3 len3 cap3 (z3.take len3) W hW k1 k2)
  obtain ⟨os, hos⟩ : ∃ os, os = othM q (z3.take len3) := ⟨_, rfl⟩
  rw [← hos] at HOT hro hco
  obtain ⟨N, hN⟩ : ∃ N, N = os.length := ⟨_, rfl⟩
  have hNp : N = 2 ^ q := by rw [hN, ← setsL_len q k1 k2, ← hro.sets, List.length_map]
  have n16 : N ≤ 16 := by rw [hNp]; exact (pow_16 q k2).1
  have n2 : 2 ≤ N := by
    rw [hNp]
    rcases (by omega : q = 1 ∨ q = 2 ∨ q = 3 ∨ q = 4) with rfl | rfl | rfl | rfl <;> decide
  have HI2 := Lib.hid (right_in k1 k2 hro)
  have hpr : ∀ (j : Nat) e, 1 ≤ j → os[j]? = some e → 0 ≤ e.p ∧ e.p ≤ fullB q := fun j e hj he => by
    have := right_p (cs := cs) (by omega) (by omega) (by rw [hcl]; exact hro) (e := e) (List.mem_iff_getElem?.2 ⟨j - 1, by rw [List.getElem?_tail, show j - 1 + 1 = j by omega]; exact he⟩)
    rw [hcl] at this
    exact this
  have HPR := Lib.hid hpr
  have hs1 : sumTo cs n os 1 = 0 := by
    have h0 : os[0]? = some (topE q) := by rw [← List.head?_eq_getElem?]; exact hro.head
    rw [sumTo_succ h0, costE_top]
    rfl
  have HS1 := Lib.hid hs1
  have HBD := Lib.hid (sumTo_bd (costE_bd (cs := cs) (n := n) hg (by rw [hcl]; exact hro)))
  have hfin : sumTo cs n os N = costP cs n os := by
    unfold sumTo costP
    rw [List.take_of_length_le (by omega)]
  have HFI := Lib.hid hfin
  have HRO := Lib.hid hro
  have HCO := Lib.hid hco
  have HNE := Lib.hid hN
  clear hr hn hg hro hco hos hNp hpr hs1 hfin
  go_wp2_with fail
  rw [← HW3.out]
  refine HWI.out.mono ?_
  rintro e w' ⟨rfl, rfl⟩
  go_wp2_with fail
  refine (HOT.out W3 (N3.out.keep (Keeps.of_below HB3.out))).mono ?_
  rintro e w4 ⟨v, rfl, ho, hb4⟩
  have hoF := ho
  obtain ⟨P, cP, rfl, hE, hnc⟩ := ho.form2 HI2.out
  rw [← hN] at hE hnc ⊢
  obtain ⟨g, o, rfl, hcs⟩ := hE.2.2 (by omega)
  obtain ⟨g', cP', eg', -, -, h3⟩ := own_form hoF
  injection eg' with eg' e8 e9
  obtain ⟨g'', eg'', hgl, -⟩ := h3 (by omega)
  rw [← eg'] at eg''
  injection eg'' with eg''
  injection eg'' with eg1 eg2
  subst eg1 eg2
  have HE := Lib.hid hE
  have HOF := Lib.hid hoF
  have HCS := Lib.hid hcs
  have HB4 := Lib.hid hb4
  have HX4 := Lib.hid (HBX.out.keep (Keeps.of_below hb4))
  clear hE hb4 ho hoF hcs x0 x1 h3 eg' e8 e9 hN
  go_wp2_with fail
  go_loopw [15, 16] (fun sm i wr => ∃ k : Nat, i = .int .i64 k ∧ 1 ≤ k ∧ k ≤ N ∧ sm = .int .i64 (sumTo cs n os k) ∧ Below w4.heap.size w4 wr) (fun _ i _ => N - (intOf i).toNat)
  case atStart => exact ⟨1, rfl, by omega, by omega, by rw [HS1.out], Below.refl _ _⟩
  case round =>
    obtain ⟨k, rfl, hk1, hk, rfl, hb⟩ := hrel
    rename World => wr
    have HB := Lib.hid hb
    have hz := hb.size
    clear hb
    by_cases hkm : k < N
    · obtain ⟨e, he⟩ : ∃ e, os[k]? = some e := ⟨_, List.getElem?_eq_getElem (by rw [← HNE.out]; omega)⟩
      have kw := Keeps.of_below HB.out
      obtain ⟨y0, y1, y2⟩ := HCS.out k e he
      rw [Nat.zero_add] at y0 y1 y2
      have v1 := kw _ _ y1
      have v2 := kw _ _ y2
      have hxr := HX4.out.keep kw
      have u0 : wr.cell? ⟨w2.heap.size, 0, none⟩ = some (.slice A q c) := hxr 0 _ rfl
      have u1 : wr.cell? ⟨w2.heap.size, 1, none⟩ = some (.int .i64 mm) := hxr 1 _ rfl
      obtain ⟨p0, p1⟩ := HPR.out k e hk1 he
      have hss := sumTo_succ (cs := cs) (n := n) he
      have HSS := Lib.hid hss
      have hsb2 := HBD.out (k + 1) (by rw [← HNE.out]; omega)
      have hsb1 := HBD.out k (by rw [← HNE.out]; omega)
      rw [hss] at hsb2
      obtain ⟨sm, hsm⟩ : ∃ sm, sm = sumTo cs n os k := ⟨_, rfl⟩
      rw [← hsm] at hsb1 hsb2 ⊢
      have HSM := Lib.hid hsm
      have kk0 : (0 : Int) ≤ (k : Int) := by omega
      have kk1 : (k : Int) < (N : Int) := by omega
      have hf := HFQ.out n wr.drew ((HB4.out.trans (HB.out.mono HB4.out.size)).drew) r0 r3
      have HFR := Lib.hid hf
      obtain ⟨sc, hsc⟩ : ∃ sc, sc = e.sc := ⟨_, rfl⟩
      have hce : costE cs n e = if sc then sizeB cs n e.p else sortB cs n e.p := by unfold costE; rw [if_neg (by omega), hsc]
      rw [← hsc] at v2
      rw [hce] at hsb2
      have HCE := Lib.hid hce
      clear hf hsc hce y0 y1 y2 hxr hss hsm he kw
      cases sc with
      | true =>
        rw [if_pos rfl] at hsb2
        have HSC := Lib.hid (rScan_any A q c mm cs n e.p wr.drew HFR.out p0 p1)
        obtain ⟨ce, hcc⟩ : ∃ ce, ce = sizeB cs n e.p := ⟨_, rfl⟩
        rw [← hcc] at HSC hsb2
        have hw64 : IntKind.i64.wrap (sm + ce) = sm + ce := IntWalk.i64_in _ (by omega)
        have HS2 := Lib.hid (show sumTo cs n os (k + 1) = sm + ce by rw [HSS.out, HCE.out, if_pos rfl, ← hcc, HSM.out])
        clear hcc
        go_wp2_with fail
        refine wp_region_held_drew (S := fun W => W.cell? ⟨w2.heap.size, 0, none⟩ = some (.slice A q c) ∧ W.cell? ⟨w2.heap.size, 1, none⟩ = some (.int .i64 mm) ∧ W.cell? ⟨g, k * 3 + 1, none⟩ = some (.int .i64 e.p)) (by kernel_rfl) ⟨u0, u1, v1⟩ (fun hHeld => ?_)
        refine wpAnyH_take (i := 0) (v := ?va0) rfl (by kernel_rfl) (by kernel_rfl) (by kernel_rfl) (fun _ _ _ h => h) (Or.inl ⟨by rfl, ?ya0⟩) hHeld ?ra0
        case ya0 => (intro W hW; obtain ⟨hW0, hW1, hW2⟩ := hW; go_simp; first | done | with_reducible rfl)
        try simp only [List.getElem_toArray, List.getElem_cons_zero, Act.put, List.setIfInBounds_toArray, List.set_cons_zero, List.set_cons_succ]
        refine wpAnyH_take (i := 1) (v := ?va1) rfl (by kernel_rfl) (by kernel_rfl) (by kernel_rfl) (fun _ _ _ h => h) (Or.inl ⟨by rfl, ?ya1⟩) hHeld ?ra1
        case ya1 => (intro W hW; obtain ⟨hW0, hW1, hW2⟩ := hW; go_simp; first | done | with_reducible rfl)
        try simp only [List.getElem_toArray, List.getElem_cons_succ, List.getElem_cons_zero, Act.put, List.setIfInBounds_toArray, List.set_cons_zero, List.set_cons_succ]
        refine wpAnyH_take (i := 2) (v := ?va2) rfl (by kernel_rfl) (by kernel_rfl) (by kernel_rfl) (fun _ _ _ h => h) (Or.inl ⟨by rfl, ?ya2⟩) hHeld ?ra2
        case ya2 => (intro W hW; obtain ⟨hW0, hW1, hW2⟩ := hW; go_simp; first | done | with_reducible rfl)
        try simp only [List.getElem_toArray, List.getElem_cons_succ, List.getElem_cons_zero, Act.put, List.setIfInBounds_toArray, List.set_cons_zero, List.set_cons_succ]
        refine wpAnyH_take (i := 3) (v := ?va3) rfl (by kernel_rfl) (by kernel_rfl) (by kernel_rfl) (fun _ _ _ h => h) (Or.inl ⟨by rfl, ?ya3⟩) hHeld ?ra3
        case ya3 => (intro W hW; obtain ⟨hW0, hW1, hW2⟩ := hW; go_simp; first | done | with_reducible rfl)
        try simp only [List.getElem_toArray, List.getElem_cons_succ, List.getElem_cons_zero, Act.put, List.setIfInBounds_toArray, List.set_cons_zero, List.set_cons_succ]
        refine wpAnyH_take (i := 4) (v := ?va4) rfl (by kernel_rfl) (by kernel_rfl) (by kernel_rfl) (fun _ _ _ h => h) (Or.inl ⟨by rfl, ?ya4⟩) hHeld ?ra4
        case ya4 => (intro W hW; obtain ⟨hW0, hW1, hW2⟩ := hW; go_simp; first | done | with_reducible rfl)
        try simp only [List.getElem_toArray, List.getElem_cons_succ, List.getElem_cons_zero, Act.put, List.setIfInBounds_toArray, List.set_cons_zero, List.set_cons_succ]
        refine wpAnyH_take (i := 5) (v := ?va5) rfl (by kernel_rfl) (by kernel_rfl) (by kernel_rfl) (fun _ _ _ h => h) (Or.inl ⟨by rfl, ?ya5⟩) hHeld ?ra5
        case ya5 => (intro W hW; obtain ⟨hW0, hW1, hW2⟩ := hW; go_simp; first | done | with_reducible rfl)
        try simp only [List.getElem_toArray, List.getElem_cons_succ, List.getElem_cons_zero, Act.put, List.setIfInBounds_toArray, List.set_cons_zero, List.set_cons_succ]
        refine wpAnyH_take (i := 6) (v := ?va6) rfl (by kernel_rfl) (by kernel_rfl) (by kernel_rfl) (fun _ _ _ h => h) (Or.inl ⟨by rfl, ?ya6⟩) hHeld ?ra6
        case ya6 => (intro W hW; obtain ⟨hW0, hW1, hW2⟩ := hW; go_simp; first | done | with_reducible rfl)
        try simp only [List.getElem_toArray, List.getElem_cons_succ, List.getElem_cons_zero, Act.put, List.setIfInBounds_toArray, List.set_cons_zero, List.set_cons_succ]
        refine wpAnyH_take (i := 7) (v := ?va7) rfl (by kernel_rfl) (by kernel_rfl) (by kernel_rfl) (fun _ _ _ h => h) (Or.inl ⟨by rfl, ?ya7⟩) hHeld ?ra7
        case ya7 => (intro W hW; obtain ⟨hW0, hW1, hW2⟩ := hW; go_simp; first | done | with_reducible rfl)
        try simp only [List.getElem_toArray, List.getElem_cons_succ, List.getElem_cons_zero, Act.put, List.setIfInBounds_toArray, List.set_cons_zero, List.set_cons_succ]
        refine wpAnyH_ready (rs := [8]) (by kernel_rfl) (by simp) ?_
        refine AllReadyH.cons rfl (fun K hK => ?_) (AllReadyH.nil)
        go_simp
        refine HSC.out.mono ?_
        rintro e9 w5 ⟨rfl, hb5⟩
        have k5 := Keeps.of_below hb5
        have HB5 := Lib.hid ((HB.out.drew).trans (hb5.mono hz))
        clear hb5
        refine hK.out _ _ (⟨k5 _ _ u0, k5 _ _ u1, k5 _ _ v1⟩) (fun hHeld => ?_)
        clear hK K
        try simp only [List.getElem_toArray, List.getElem_cons_succ, List.getElem_cons_zero, Act.put, List.setIfInBounds_toArray, List.set_cons_zero, List.set_cons_succ]
        refine wpAnyH_take (i := 9) (v := ?va9) rfl (by kernel_rfl) (by kernel_rfl) (by kernel_rfl) (fun _ _ _ h => h) (Or.inl ⟨by rfl, ?ya9⟩) hHeld ?ra9
        case ya9 => (intro W hW; obtain ⟨hW0, hW1, hW2⟩ := hW; go_simp; first | done | with_reducible rfl)
        try simp only [List.getElem_toArray, List.getElem_cons_succ, List.getElem_cons_zero, Act.put, List.setIfInBounds_toArray, List.set_cons_zero, List.set_cons_succ]
        refine wpAnyH_take (i := 10) (v := ?va10) rfl (by kernel_rfl) (by kernel_rfl) (by kernel_rfl) (fun _ _ _ h => h) (Or.inl ⟨by rfl, ?ya10⟩) hHeld ?ra10
        case ya10 => (intro W hW; obtain ⟨hW0, hW1, hW2⟩ := hW; go_simp; first | done | with_reducible rfl)
        try simp only [List.getElem_toArray, List.getElem_cons_succ, List.getElem_cons_zero, Act.put, List.setIfInBounds_toArray, List.set_cons_zero, List.set_cons_succ]
        refine wpAnyH_done (by kernel_rfl) ?_ _
        go_wp2
        try rw [hw64]
        go_roundw
        case rel => exact ⟨k + 1, by go_num, by omega, by omega, by rw [HS2.out], HB5.out⟩
        case measure => simp [intOf]; omega
      | false =>
        rw [if_neg (by simp)] at hsb2
        have HSC := Lib.hid (rSort_any A q c mm cs n e.p wr.drew HFR.out.nums HFR.out.q4 HFR.out.c HFR.out.n0 HFR.out.n3 p0 p1)
        obtain ⟨ce, hcc⟩ : ∃ ce, ce = sortB cs n e.p := ⟨_, rfl⟩
        rw [← hcc] at HSC hsb2
        have hw64 : IntKind.i64.wrap (sm + ce) = sm + ce := IntWalk.i64_in _ (by omega)
        have HS2 := Lib.hid (show sumTo cs n os (k + 1) = sm + ce by rw [HSS.out, HCE.out, if_neg (by simp), ← hcc, HSM.out])
        clear hcc
        go_wp2_with fail
        refine wp_region_held_drew (S := fun W => W.cell? ⟨w2.heap.size, 0, none⟩ = some (.slice A q c) ∧ W.cell? ⟨w2.heap.size, 1, none⟩ = some (.int .i64 mm) ∧ W.cell? ⟨g, k * 3 + 1, none⟩ = some (.int .i64 e.p)) (by kernel_rfl) ⟨u0, u1, v1⟩ (fun hHeld => ?_)
        refine wpAnyH_take (i := 0) (v := ?vb0) rfl (by kernel_rfl) (by kernel_rfl) (by kernel_rfl) (fun _ _ _ h => h) (Or.inl ⟨by rfl, ?yb0⟩) hHeld ?rb0
        case yb0 => (intro W hW; obtain ⟨hW0, hW1, hW2⟩ := hW; go_simp; first | done | with_reducible rfl)
        try simp only [List.getElem_toArray, List.getElem_cons_zero, Act.put, List.setIfInBounds_toArray, List.set_cons_zero, List.set_cons_succ]
        refine wpAnyH_take (i := 1) (v := ?vb1) rfl (by kernel_rfl) (by kernel_rfl) (by kernel_rfl) (fun _ _ _ h => h) (Or.inl ⟨by rfl, ?yb1⟩) hHeld ?rb1
        case yb1 => (intro W hW; obtain ⟨hW0, hW1, hW2⟩ := hW; go_simp; first | done | with_reducible rfl)
        try simp only [List.getElem_toArray, List.getElem_cons_succ, List.getElem_cons_zero, Act.put, List.setIfInBounds_toArray, List.set_cons_zero, List.set_cons_succ]
        refine wpAnyH_take (i := 2) (v := ?vb2) rfl (by kernel_rfl) (by kernel_rfl) (by kernel_rfl) (fun _ _ _ h => h) (Or.inl ⟨by rfl, ?yb2⟩) hHeld ?rb2
        case yb2 => (intro W hW; obtain ⟨hW0, hW1, hW2⟩ := hW; go_simp; first | done | with_reducible rfl)
        try simp only [List.getElem_toArray, List.getElem_cons_succ, List.getElem_cons_zero, Act.put, List.setIfInBounds_toArray, List.set_cons_zero, List.set_cons_succ]
        refine wpAnyH_take (i := 3) (v := ?vb3) rfl (by kernel_rfl) (by kernel_rfl) (by kernel_rfl) (fun _ _ _ h => h) (Or.inl ⟨by rfl, ?yb3⟩) hHeld ?rb3
        case yb3 => (intro W hW; obtain ⟨hW0, hW1, hW2⟩ := hW; go_simp; first | done | with_reducible rfl)
        try simp only [List.getElem_toArray, List.getElem_cons_succ, List.getElem_cons_zero, Act.put, List.setIfInBounds_toArray, List.set_cons_zero, List.set_cons_succ]
        refine wpAnyH_take (i := 4) (v := ?vb4) rfl (by kernel_rfl) (by kernel_rfl) (by kernel_rfl) (fun _ _ _ h => h) (Or.inl ⟨by rfl, ?yb4⟩) hHeld ?rb4
        case yb4 => (intro W hW; obtain ⟨hW0, hW1, hW2⟩ := hW; go_simp; first | done | with_reducible rfl)
        try simp only [List.getElem_toArray, List.getElem_cons_succ, List.getElem_cons_zero, Act.put, List.setIfInBounds_toArray, List.set_cons_zero, List.set_cons_succ]
        refine wpAnyH_take (i := 5) (v := ?vb5) rfl (by kernel_rfl) (by kernel_rfl) (by kernel_rfl) (fun _ _ _ h => h) (Or.inl ⟨by rfl, ?yb5⟩) hHeld ?rb5
        case yb5 => (intro W hW; obtain ⟨hW0, hW1, hW2⟩ := hW; go_simp; first | done | with_reducible rfl)
        try simp only [List.getElem_toArray, List.getElem_cons_succ, List.getElem_cons_zero, Act.put, List.setIfInBounds_toArray, List.set_cons_zero, List.set_cons_succ]
        refine wpAnyH_take (i := 6) (v := ?vb6) rfl (by kernel_rfl) (by kernel_rfl) (by kernel_rfl) (fun _ _ _ h => h) (Or.inl ⟨by rfl, ?yb6⟩) hHeld ?rb6
        case yb6 => (intro W hW; obtain ⟨hW0, hW1, hW2⟩ := hW; go_simp; first | done | with_reducible rfl)
        try simp only [List.getElem_toArray, List.getElem_cons_succ, List.getElem_cons_zero, Act.put, List.setIfInBounds_toArray, List.set_cons_zero, List.set_cons_succ]
        refine wpAnyH_take (i := 7) (v := ?vb7) rfl (by kernel_rfl) (by kernel_rfl) (by kernel_rfl) (fun _ _ _ h => h) (Or.inl ⟨by rfl, ?yb7⟩) hHeld ?rb7
        case yb7 => (intro W hW; obtain ⟨hW0, hW1, hW2⟩ := hW; go_simp; first | done | with_reducible rfl)
        try simp only [List.getElem_toArray, List.getElem_cons_succ, List.getElem_cons_zero, Act.put, List.setIfInBounds_toArray, List.set_cons_zero, List.set_cons_succ]
        refine wpAnyH_ready (rs := [8]) (by kernel_rfl) (by simp) ?_
        refine AllReadyH.cons rfl (fun K hK => ?_) (AllReadyH.nil)
        go_simp
        refine HSC.out.mono ?_
        rintro e9 w5 ⟨rfl, hb5⟩
        have k5 := Keeps.of_below hb5
        have HB5 := Lib.hid ((HB.out.drew).trans (hb5.mono hz))
        clear hb5
        refine hK.out _ _ (⟨k5 _ _ u0, k5 _ _ u1, k5 _ _ v1⟩) (fun hHeld => ?_)
        clear hK K
        try simp only [List.getElem_toArray, List.getElem_cons_succ, List.getElem_cons_zero, Act.put, List.setIfInBounds_toArray, List.set_cons_zero, List.set_cons_succ]
        refine wpAnyH_take (i := 9) (v := ?vb9) rfl (by kernel_rfl) (by kernel_rfl) (by kernel_rfl) (fun _ _ _ h => h) (Or.inl ⟨by rfl, ?yb9⟩) hHeld ?rb9
        case yb9 => (intro W hW; obtain ⟨hW0, hW1, hW2⟩ := hW; go_simp; first | done | with_reducible rfl)
        try simp only [List.getElem_toArray, List.getElem_cons_succ, List.getElem_cons_zero, Act.put, List.setIfInBounds_toArray, List.set_cons_zero, List.set_cons_succ]
        refine wpAnyH_take (i := 10) (v := ?vb10) rfl (by kernel_rfl) (by kernel_rfl) (by kernel_rfl) (fun _ _ _ h => h) (Or.inl ⟨by rfl, ?yb10⟩) hHeld ?rb10
        case yb10 => (intro W hW; obtain ⟨hW0, hW1, hW2⟩ := hW; go_simp; first | done | with_reducible rfl)
        try simp only [List.getElem_toArray, List.getElem_cons_succ, List.getElem_cons_zero, Act.put, List.setIfInBounds_toArray, List.set_cons_zero, List.set_cons_succ]
        refine wpAnyH_done (by kernel_rfl) ?_ _
        go_wp2
        try rw [hw64]
        go_roundw
        case rel => exact ⟨k + 1, by go_num, by omega, by omega, by rw [HS2.out], HB5.out⟩
        case measure => simp [intOf]; omega
    · obtain rfl : k = N := by omega
      rw [HFI.out]
      obtain ⟨co, hcoe⟩ : ∃ co, co = costP cs n os := ⟨_, rfl⟩
      rw [← hcoe]
      have hco2 := HCO.out
      rw [← hcoe] at hco2
      have HCO2 := Lib.hid hco2
      have HCOE := Lib.hid hcoe
      have kw := Keeps.of_below HB.out
      have hxr := HX4.out.keep kw
      have u0 : wr.cell? ⟨w2.heap.size, 0, none⟩ = some (.slice A q c) := hxr 0 _ rfl
      have u1 : wr.cell? ⟨w2.heap.size, 1, none⟩ = some (.int .i64 mm) := hxr 1 _ rfl
      have hb34 := HB4.out.trans (HB.out.mono HB4.out.size)
      have HB34 := Lib.hid hb34
      have HCA := Lib.hid (cost_any A q c mm cs n (some ⟨g, 0, none⟩) k cP os wr (HFQ.out n wr hb34 r0 r3) HCK.out (HE.out.keep kw) hnc (by omega))
      rw [hco2] at HCA
      have hXR := Lib.hid hxr
      have hceq : (co != co) = false := by simp
      clear hxr hco2 hcoe kw hb34
      go_wp2_with fail
      refine HCA.out.mono ?_
      rintro e w6 ⟨rfl, hb6⟩
      have HB36 := Lib.hid (HB34.out.trans (hb6.mono HB34.out.size))
      have HX6 := Lib.hid (hXR.out.keep (Keeps.of_below hb6))
      have k46 := (Keeps.of_below HB.out).trans (Keeps.of_below hb6)
      have HB46 := Lib.hid (HB.out.trans (hb6.mono hz))
      have HK46 := Lib.hid k46
      have hz6 := hb6.size
      have HW4 := Lib.hid (fun W => lwithin10 a4 ((k : Int) - 1) W h4 (by omega) (by omega))
      have zz0 := Int.emod_nonneg a4 (show (k : Int) - 1 ≠ 0 by omega)
      have zz1 := Int.emod_lt_of_pos a4 (show (0 : Int) < (k : Int) - 1 by omega)
      obtain ⟨z, hz9⟩ : ∃ z, z = a4 % ((k : Int) - 1) := ⟨_, rfl⟩
      rw [← hz9] at HW4 zz0 zz1
      clear hz9
      obtain ⟨at_, hat⟩ : ∃ at_ : Nat, z = (at_ : Int) := ⟨z.toNat, by omega⟩
      have hatl : at_ < k - 1 := by omega
      rw [hat] at HW4
      obtain ⟨K, hK⟩ : ∃ K, K = at_ + 1 := ⟨_, rfl⟩
      have hKw : IntKind.i64.wrap (1 + (at_ : Int)) = (K : Int) := by rw [IntWalk.i64_in _ (by omega)]; omega
      have hKl : K < k := by omega
      have hK1 : 1 ≤ K := by omega
      obtain ⟨e, he⟩ : ∃ e, os[K]? = some e := ⟨_, List.getElem?_eq_getElem (by rw [← HNE.out]; omega)⟩
      obtain ⟨y0, y1, y2⟩ := HCS.out K e he
      rw [Nat.zero_add] at y0 y1 y2
      have v2 := k46 _ _ y2
      have HEE := Lib.hid he
      have K0 : (0 : Int) ≤ (K : Int) := by omega
      have K1 : (K : Int) < (k : Int) := by omega
      obtain ⟨sc, hsc⟩ : ∃ sc, sc = e.sc := ⟨_, rfl⟩
      rw [← hsc] at v2
      have HSC := Lib.hid hsc
      clear hb6 k46 hat hK he zz0 zz1 y0 y1 y2 hsc u0 u1
      cases sc with
      | false =>
        go_wp2_with fail
        refine (HW4.out w6).mono ?_
        rintro e9 w' ⟨rfl, rfl⟩
        go_wp2
        go_ret
        exact ⟨rfl, HB3.out.trans (HB36.out.mono HB3.out.size)⟩
      | true =>
        have hoe6 := HOF.out.below HB46.out
        have hfz := own_free hoe6 (K * 3 + 2)
        have hset := hoe6.setS false HEE.out
        have hur := unscan_right HRO.out HEE.out hK1
        have huc := unscan_cost HG.out n1 (by rw [hcl]; exact HRO.out) HEE.out hK1 HSC.out.symm
        have hcb := costB_right (cs := cs) (n := n) (by omega) (by omega) (by rw [hcl]; exact hur)
        have hpb := (plan_iff k1 k2 _).2 hur
        have hin := right_in k1 k2 hur
        have hlen : (os.set K ⟨e.s, e.p, false⟩).length = k := by rw [List.length_set, ← HNE.out]
        obtain ⟨os2, hos2⟩ : ∃ os2, os2 = os.set K ⟨e.s, e.p, false⟩ := ⟨_, rfl⟩
        rw [← hos2] at hset hur huc hcb hpb hin hlen
        rw [← HCOE.out] at huc
        obtain ⟨c2, hc2⟩ : ∃ c2, c2 = costP cs n os2 := ⟨_, rfl⟩
        rw [← hc2] at huc hcb
        have hwb : Below W3.heap.size W3 (w6.setCell ⟨g, K * 3 + 2, none⟩ (.bool false)) := HB36.out.setCell (p := ⟨g, K * 3 + 2, none⟩) hgl _
        obtain ⟨w7, hw7⟩ : ∃ w7, w7 = w6.setCell ⟨g, K * 3 + 2, none⟩ (.bool false) := ⟨_, rfl⟩
        have hx7 : Bx w7 w2.heap.size #[.slice A q c, .int .i64 mm] := by rw [hw7]; exact HX6.out.other (by omega) _ _
        rw [← hw7] at hset hwb
        obtain ⟨P9, c9, e9, hE9, hc9⟩ := hset.form2 hin
        injection e9 with e9 e10 e11
        subst e9
        rw [hlen] at hE9 hc9
        rw [← e11] at hc9
        have HC7 := Lib.hid (cost_any A q c mm cs n (some ⟨g, 0, none⟩) k cP os2 w7 (HFQ.out n w7 hwb r0 r3) HCK.out hE9 hc9 (by omega))
        rw [hcb] at HC7
        have u0 : w6.cell? ⟨w2.heap.size, 0, none⟩ = some (.slice A q c) := HX6.out 0 _ rfl
        have u1 : w6.cell? ⟨w2.heap.size, 1, none⟩ = some (.int .i64 mm) := HX6.out 1 _ rfl
        have hgw : ¬ w2.heap.size = g := by omega
        have hgw2 : ¬ g = w2.heap.size := by omega
        have HW7 := Lib.hid hw7
        have HB7 := Lib.hid hwb
        have HE9 := Lib.hid hE9
        have HX7 := Lib.hid hx7
        have HPB := Lib.hid hpb
        clear hoe6 hset hur hcb hpb hin hlen hos2 hc2 hwb hw7 hx7 hE9 e10 e11
        go_wp2_with fail
        refine (HW4.out w6).mono ?_
        rintro e9 w' ⟨rfl, rfl⟩
        go_wp2_with fail
        rw [← HW7.out]
        refine HC7.out.mono ?_
        rintro e9 w8 ⟨rfl, hb8⟩
        have hx8 := HX7.out.keep (Keeps.of_below hb8)
        have u2 : w8.cell? ⟨w2.heap.size, 0, none⟩ = some (.slice A q c) := hx8 0 _ rfl
        have HB38 := Lib.hid (HB7.out.trans (hb8.mono HB7.out.size))
        have hf8 := HFQ.out n w8 HB38.out r0 r3
        have HR8 := Lib.hid (right_any (some ⟨g, 0, none⟩) k cP q os2 w8 (HE9.out.keep (Keeps.of_below hb8)) hc9 (by omega) k1 k2 hf8.tab hf8.w1)
        rw [HPB.out] at HR8
        have hgt : decide (co < c2) = true := decide_eq_true huc
        clear hb8 hx8 hf8 u0 u1
        go_wp2_with fail
        refine HR8.out.mono ?_
        rintro e9 w9 ⟨rfl, hb9⟩
        have HB39 := Lib.hid (HB38.out.trans (hb9.mono HB38.out.size))
        clear hb9
        go_wp2
        go_ret
        exact ⟨by simp, HB3.out.trans (HB39.out.mono HB3.out.size)⟩
end Go.Proofs.YtbmdiiifhccebaaDoor
