/- Rows of runs that a law lays itself; what lists that rise come to. -/
import Derived.IntWalk
import Derived.Test.YtmolfcccfekcpaaRrow6
import Derived.Test.YtmolfcccfekcpaaGood5
import Derived.Test.YtmolfcccfekcpaaMath5
import Derived.Test.YtmolfcccfekcpaaFactsLaw2
import Derived.Test.YtmolfcccfekcpaaSet
import Derived.Test.YtmolfcccfekcpaaIsRow
import Derived.Test.YtmolfcccfekcpaaRfacts
namespace Go.Proofs.Ytmolfcccfekcpaa
open Go.RowKit Go.Shelf
theorem rcc_list {X : World} {b n : Nat} {vs : List Value} {Js : List (List Cel)} (o : Own 31 X b vs) (h : ∀ (i : Nat) (J : List Cel), Js[i]? = some J → ∃ Pi ci, vs[i]? = some (Value.slice Pi J.length ci) ∧ RowC X Pi J.length J ∧ J.length ≤ ci) : RCc X (some ⟨b, 0, none⟩) n Js := fun _ => ⟨_, rfl, fun i J hJ => by
  obtain ⟨Pi, ci, h1, h2, h3⟩ := h i J hJ
  exact ⟨Pi, ci, by rw [add0]; exact o.cell h1, h2, h3⟩⟩
theorem RCc.rc {X : World} {P : Option Addr} {n : Nat} {Js : List (List Cel)} (h : RCc X P n Js) : RC X P n Js := fun hn => by
  obtain ⟨ad, e, hc⟩ := h hn
  refine ⟨ad, e, fun i J hJ => ?_⟩
  obtain ⟨Pi, ci, h1, h2, -⟩ := hc i J hJ
  exact ⟨Pi, ci, h1, h2⟩
theorem rcc_one {w X : World} {P : Option Addr} {N c : Nat} {J : List Cel} (hX : X = w.alloc (.cells #[.slice P N c] 31)) (h : RowC w P N J) (hN : N = J.length) (hc : N ≤ c) : RCc X (some ⟨w.heap.size, 0, none⟩) 1 [J] ∧ Below w.heap.size w X := by
  have hb : Below w.heap.size w X := by rw [hX]; exact (Below.refl _ _).alloc (Nat.le_refl _) _
  have o : Own 31 X w.heap.size [.slice P N c] := by rw [hX]; exact heap_alloc_new w _
  refine ⟨rcc_list o fun i K hK => ?_, hb⟩
  rcases i with _ | i
  · simp only [List.getElem?_cons_zero, Option.some.injEq] at hK
    subst hK
    rw [← hN]
    exact ⟨P, c, rfl, h.keep (Keeps.of_below hb), hc⟩
  · simp at hK
theorem rcc_two {w X : World} {P Q : Option Addr} {N c M d : Nat} {J K : List Cel} (hX : X = w.alloc (.cells #[.slice P N c, .slice Q M d] 31)) (h : RowC w P N J) (hN : N = J.length) (hc : N ≤ c) (h2 : RowC w Q M K) (hM : M = K.length) (hd : M ≤ d) : RCc X (some ⟨w.heap.size, 0, none⟩) 2 [J, K] ∧ Below w.heap.size w X := by
  have hb : Below w.heap.size w X := by rw [hX]; exact (Below.refl _ _).alloc (Nat.le_refl _) _
  have o : Own 31 X w.heap.size [.slice P N c, .slice Q M d] := by rw [hX]; exact heap_alloc_new w _
  refine ⟨rcc_list o fun i G hG => ?_, hb⟩
  rcases i with _ | _ | i
  · simp only [List.getElem?_cons_zero, Option.some.injEq] at hG
    subst hG
    rw [← hN]
    exact ⟨P, c, rfl, h.keep (Keeps.of_below hb), hc⟩
  · simp only [List.getElem?_cons_succ, List.getElem?_cons_zero, Option.some.injEq] at hG
    subst hG
    rw [← hM]
    exact ⟨Q, d, rfl, h2.keep (Keeps.of_below hb), hd⟩
  · simp at hG
theorem pass_two {f : Nat} (hf : 2 ≤ f) : passN f 2 = 1 := by
  rw [passN_more (by omega) hf, passN_one (by
    have : (2 + f - 1) / f < 2 := by rw [Nat.div_lt_iff_lt_mul (by omega)]; omega
    omega)]
theorem two_self_len : ∀ (G : List Cel), (twoP G G).length = G.length
  | [] => by rw [twoP_nil]
  | x :: l => by
    have h0 : cmpL x.key x.key = 0 := cmpL_zero.2 rfl
    rw [twoP_cons, if_neg (by omega), if_pos h0, List.length_cons, List.length_cons, two_self_len l]
theorem grp_self_len {G : List Cel} (h : RiseC G) : (grpR (G ++ G)).length = G.length := by rw [← two_grp h h, two_self_len]
theorem OkL.app {d mm : Nat} {L K : List Cel} (h : OkL d mm L) (h2 : OkL d mm K) : OkL d mm (L ++ K) := fun x hx => by
  rcases List.mem_append.1 hx with hx | hx
  · exact h x hx
  · exact h2 x hx
theorem grp_one {G : List Cel} (h : RiseC G) : grpR [G].flatten = G := by
  have : [G].flatten = G := by simp
  rw [this]
  have h1 := two_grp h (show RiseC [] by simp [RiseC])
  rw [twoP_nil2, List.append_nil] at h1
  exact h1.symm
theorem mpk_two {d me : Nat} {J K : List Cel} (hJ : RiseC J) (hK : RiseC K) (oJ : OkL d me J) (oK : OkL d me K) (hd : d ≤ 1000000) (hl : J.length + K.length ≤ 1000) : MPk me [J, K] :=
  have hfl : [J, K].flatten = J ++ K := by simp
  MPk.of_ok (d := d) (fun G hG => by
    simp at hG
    rcases hG with rfl | rfl
    · exact hJ
    · exact hK) (by rw [hfl]; exact oJ.app oK) hd (by rw [hfl, List.length_append]; exact hl)
theorem wpList_append_eqg {P : Program} {ops : Array Oper} {rest : List Oper} {o : Oper} {a : Act} {w : World} {Q : Exit → Act → World → Prop} (hw : Region.wanted o (yielded ops a.tmps) = true) (s x : Operand) (t : TypeId)
    (ho : o.op = .call { callee := .builtin .append, args := #[s, x], argTypes := #[t, t] }) (v y v' : Value) (w' : World) (hs : a.eval s = v) (hx : a.eval x = y)
    (hrun : (Builtin.append_ #[t, t] o.type #[v, y]).run P w = .ok v' w') (h : wpList P ops Q rest (a.put o.dst v') w') : wpList P ops Q (o :: rest) a w :=
  wpList_step fun K hK => by
    rw [if_pos hw]
    unfold Oper.wp execOp
    simp only [ho, resolve, invoke, builtin, Sem.run_bind, Sem.run_pure, Result.andThen_ok, List.map_toArray, List.map_cons, List.map_nil, hs, hx, hrun]
    exact hK _ _ h
theorem rise_nil : RiseC [] := by simp [RiseC]
theorem okL_nil {d me : Nat} : OkL d me [] := fun x hx => absurd hx List.not_mem_nil
theorem grp_nil_right {G : List Cel} (h : RiseC G) : grpR (G ++ []) = G := by rw [← two_grp h rise_nil, twoP_nil2]
theorem grp_nil_left {G : List Cel} (h : RiseC G) : grpR ([] ++ G) = G := by rw [← two_grp rise_nil h, twoP_nil]
theorem rowC_nil {W : World} {P : Option Addr} : RowC W P 0 [] := fun h => absurd h (by omega)
theorem grp_turn (J K : List Cel) : grpR (J ++ K) = grpR (K ++ J) := grpR_perm List.perm_append_comm
end Go.Proofs.Ytmolfcccfekcpaa
/- Merged cells of the call's own: what a law writes over in them. -/
namespace Go.Proofs.Ytmolfcccfekcpaa
open Go.RowKit Go.Shelf
theorem GRs.cellG {B g c n : Nat} {X : World} {us : List V5} {J : List Cel} (h : GRs B X (.slice (some ⟨g, 0, none⟩) n c) us J) {j : Nat} {u : Value} (hu : (flatV us)[j]? = some u) : X.cell? ⟨g, j, none⟩ = some u := by
  obtain ⟨P, c', e, -, -, h2, -⟩ := h.form
  have hw : 0 < us.length := by
    rcases Nat.eq_zero_or_pos us.length with z | z
    · rw [List.length_eq_zero_iff] at z; subst z; simp [flatV] at hu
    · exact z
  obtain ⟨g', rfl, -, -, -, h3⟩ := h2 hw
  injection e with e1 _ _
  injection e1 with e1
  injection e1 with e1
  rw [e1]
  exact h3 j u hu
theorem GRs.five {B g c n k : Nat} {X : World} {us : List V5} {J : List Cel} {p : V5} (h : GRs B X (.slice (some ⟨g, 0, none⟩) n c) us J) (hp : us[k]? = some p) : X.cell? ⟨g, k * 5, none⟩ = some p.a ∧ X.cell? ⟨g, k * 5 + 1, none⟩ = some p.b ∧ X.cell? ⟨g, k * 5 + 2, none⟩ = some p.c ∧ X.cell? ⟨g, k * 5 + 3, none⟩ = some p.d ∧ X.cell? ⟨g, k * 5 + 4, none⟩ = some p.e := by
  obtain ⟨c0, c1, c2, c3, c4⟩ := flatV_five hp
  exact ⟨h.cellG c0, h.cellG c1, h.cellG c2, h.cellG c3, h.cellG c4⟩
theorem GRs.froz {B g c n : Nat} {X : World} {us : List V5} {J : List Cel} (h : GRs B X (.slice (some ⟨g, 0, none⟩) n c) us J) (j : Nat) : X.frozen? ⟨g, j, none⟩ = false := by
  obtain ⟨P, c', e, -⟩ := h.form
  injection e with e1 e2 e3
  subst e1 e2 e3
  exact World.ownsRow.frozenAt h.1 j
/-- As it was, but for numbers; nothing below B has turned. -/
structure Shp (B : Nat) (w8 X : World) : Prop where
  ex : ∀ p, (∃ v, w8.cell? p = some v) → ∃ v, X.cell? p = some v
  same : ∀ p v, w8.cell? p = some v → (∀ n, v ≠ .int .i64 n) → X.cell? p = some v
  fz : ∀ p, w8.frozen? p = false → X.frozen? p = false
  bel : Below B w8 X
theorem Shp.refl (B : Nat) (w : World) : Shp B w w := ⟨fun _ h => h, fun _ _ h _ => h, fun _ h => h, Below.refl _ _⟩
theorem Shp.write {B b j : Nat} {w8 X : World} (h : Shp B w8 X) (hp : ∃ n, w8.cell? ⟨b, j, none⟩ = some (.int .i64 n)) (hb : B ≤ b) (y : Int) : Shp B w8 (X.setCell ⟨b, j, none⟩ (.int .i64 y)) where
  ex := fun p hv => by
    obtain ⟨v, hv⟩ := h.ex p hv
    exact cell?_setCell_some hv
  same := fun p v hv hn => by
    have hne : (⟨b, j, none⟩ : Addr) ≠ p := fun e => by
      obtain ⟨n, hn'⟩ := hp
      rw [e, hv] at hn'
      injection hn' with hn'
      exact hn n hn'
    rw [World.cell?_setCell_other (h := hne)]
    exact h.same p v hv hn
  fz := fun p hp' => by
    rw [World.frozen?_setCell]
    exact h.fz p hp'
  bel := h.bel.setCell (p := ⟨b, j, none⟩) hb _
theorem Shp.drew {B : Nat} {w8 X : World} (h : Shp B w8 X) : Shp B w8 X.drew := ⟨h.ex, h.same, h.fz, h.bel.drew⟩
theorem slice_nint {P : Option Addr} {n c : Nat} : ∀ k, (Value.slice P n c) ≠ .int .i64 k := fun _ e => by cases e
def NumB (B : Nat) (X : World) (P : Option Addr) (d : Nat) : Prop := 0 < d → ∃ g, P = some ⟨g, 0, none⟩ ∧ B ≤ g ∧ (∀ j, X.frozen? ⟨g, j, none⟩ = false) ∧ ∀ j, j < d → ∃ n, X.cell? ⟨g, j, none⟩ = some (.int .i64 n)
theorem GRs.accs2 {B : Nat} {X : World} {v : Value} {us : List V5} {J : List Cel} {me d : Nat} (h : GRs B X v us J) (hn : 1 ≤ J.length) (he : OkL d me J) :
    ∃ g c, v = .slice (some ⟨g, 0, none⟩) J.length c ∧ B ≤ g ∧ (∀ j, X.frozen? ⟨g, j, none⟩ = false) ∧ ∀ k, k < J.length →
      (∃ n, X.cell? ⟨g, k * 5 + 1, none⟩ = some (.int .i64 n)) ∧
      ∃ Pk ck Px cx, X.cell? ⟨g, k * 5, none⟩ = some (.slice Pk d ck) ∧ X.cell? ⟨g, k * 5 + 4, none⟩ = some (.slice Px me cx) ∧ NumB B X Pk d ∧ NumB B X Px me := by
  have hul := h.len
  obtain ⟨P, c, hv, -, -, h2, -⟩ := h.form
  obtain ⟨g, rfl, hB, -, -, -⟩ := h2 (by omega)
  rw [hul] at hv
  subst hv
  refine ⟨g, c, rfl, hB, fun j => h.froz j, fun k hk => ?_⟩
  obtain ⟨u, hu⟩ : ∃ u, us[k]? = some u := ⟨_, List.getElem?_eq_getElem (by omega)⟩
  obtain ⟨x, hx⟩ : ∃ x, J[k]? = some x := ⟨_, List.getElem?_eq_getElem hk⟩
  obtain ⟨hb, ho, -⟩ := h.2.2 k u x hu hx
  obtain ⟨c0, c1, -, -, c4⟩ := h.five hu
  obtain ⟨ed, -, -, -, e3⟩ := he x (List.mem_of_getElem? hx)
  obtain ⟨Pk, ck, fk, -⟩ := ho.key.form
  obtain ⟨Px, cx, fx, -⟩ := ho.mx.form
  rw [ed] at fk
  rw [e3] at fx
  have key : ∀ {t : Value} {xs : List Int} {Q : Option Addr} {d m : Nat}, OI B X t xs → xs.length = m → t = .slice Q m d → NumB B X Q m := by
    intro t xs Q d m o hl ht hm
    obtain ⟨g, c', e, hc⟩ := o.block 0 (by omega)
    rw [ht] at e
    injection e with e4 e5 e6
    subst e4 e6
    rw [ht] at o
    exact ⟨g, rfl, o.ge.1, fun j => o.frozen j, fun j hj => by
      obtain ⟨z, hz⟩ : ∃ z, xs[j]? = some z := ⟨_, List.getElem?_eq_getElem (by omega)⟩
      exact ⟨z, hc j z hz⟩⟩
  exact ⟨⟨_, by rw [← hb]; exact c1⟩, Pk, ck, Px, cx, by rw [c0, fk], by rw [c4, fx], key ho.key ed fk, key ho.mx e3 fx⟩
end Go.Proofs.Ytmolfcccfekcpaa
/- The law MergeOwn. -/
namespace Go.Proofs.Ytmolfcccfekcpaa
open Go.RowKit
attribute [local go_sem] Oper.semAt_some
set_option maxRecDepth 100000 in
set_option maxHeartbeats 8000000 in
theorem mergeOwn_walk (a0 : Int) (a1 : Option Addr) (len1 cap1 : Nat) (z1 : List Int) (a2 : Int) (a3 : Option Addr) (len3 cap3 : Nat) (z3 : List Int) (a4 : Int) (a5 : Int) (w : World) (h0 : inK .i64 a0) (w1 : IsRow .i64 w a1 len1 cap1 z1) (h2 : inK .i64 a2) (w3 : IsRow .i64 w a3 len3 cap3 z3) (h4 : inK .i64 a4) (_h5 : inK .i64 a5) :
    Calls Try.prog 8 #[.int .i64 a0, .slice a1 len1 cap1, .int .i64 a2, .slice a3 len3 cap3, .int .i64 a4, .int .i64 a5] w fun e w' => e = .returned (.bool true) ∧ Below w.heap.size w w' := by
  obtain ⟨n1, lc1, cm1⟩ := w1.nums
  obtain ⟨n3, lc3, cm3⟩ := w3.nums
  have N1 := Lib.hid n1
  have N3 := Lib.hid n3
  have HKn := Lib.hid (known6_any w)
  clear w1 w3 n1 n3
  go_enter Try.func8, Try.ntmps8
  go_wp2_with fail
  refine HKn.out.mono ?_
  rintro e w1 ⟨rfl, hb1⟩
  have Hb1 := Lib.hid hb1
  clear hb1 HKn
  go_wp2_with fail
  refine (Facts_res a0 a2 a1 a3 len1 cap1 len3 cap3 _ _ w1 (N1.out.keep (Keeps.of_below Hb1.out)) (N3.out.keep (Keeps.of_below Hb1.out)) (by omega) (by omega) h0 h2).mono ?_
  rintro e w2 ⟨A, c, D, d, C, q, mm, m, cs, l, rfl, hF⟩
  have F := Lib.hid hF
  obtain ⟨k1, k2, k3, k4⟩ : 1 ≤ q ∧ q ≤ 4 ∧ mm ≤ 2 ∧ m ≤ 40 := ⟨hF.q1, hF.q4, hF.m2, hF.m40⟩
  have hb2 : Below w.heap.size w w2 := Hb1.out.trans (hF.below.mono Hb1.out.size)
  have hb3 : Below w2.heap.size w2 (w2.alloc (.cells #[.slice A q c, .int .i64 mm] 25)) := (Below.refl _ _).alloc (Nat.le_refl _) _
  obtain ⟨s1, s2, s3⟩ := set_bd a4 q k1 k2
  have Hb2 := Lib.hid hb2
  have Hb3 := Lib.hid hb3
  clear hF hb2 hb3 N1 N3
  go_wp2_with fail
  refine (set_any A q c mm a4 _ k1 k2 h4).mono ?_
  rintro e w4 ⟨rfl, rfl⟩
  obtain ⟨sa, hsa⟩ : ∃ sa, sa = a4 % 2 ^ q := ⟨_, rfl⟩
  rw [← hsa] at s1 s2 s3 ⊢
  have HSA := Lib.hid hsa
  clear hsa
  have hb4 : Below w2.heap.size w2 ((w2.alloc (.cells #[.slice A q c, .int .i64 mm] 25)).alloc (.cells #[.slice A q c, .int .i64 mm] 25)) := Hb3.out.alloc Hb3.out.size _
  have HB4 := Lib.hid hb4
  clear hb4
  have os : Own 25 ((w2.alloc (.cells #[.slice A q c, .int .i64 mm] 25)).alloc (.cells #[.slice A q c, .int .i64 mm] 25)) w2.heap.size [.slice A q c, .int .i64 mm] := (Below.heap_alloc _ _ _ (by simp)).trans (heap_alloc_new w2 _)
  have OS := Lib.hid os
  clear os
  generalize (w2.alloc (.cells #[.slice A q c, .int .i64 mm] 25)).alloc (.cells #[.slice A q c, .int .i64 mm] 25) = w4 at HB4 OS ⊢
  have hl4 : ∀ r ∈ l, r.key.length = q ∧ r.m.length = mm := F.out.lens
  have HL4 := Lib.hid (fun r hr => (show r.key.length ≤ 4 ∧ r.m.length = mm from ⟨by rw [(hl4 r hr).1]; exact k2, (hl4 r hr).2⟩))
  have hmk := fun W (hW : Below w2.heap.size w2 W) => make_any D m d C sa l W (F.out.rows.below hW (Nat.le_refl _)) F.out.em k4 F.out.small (fun r hr => by have := hl4 r hr; omega) s1 s2
  obtain ⟨L, hL⟩ : ∃ L, L = l.map (ofC sa) := ⟨_, rfl⟩
  have hLm : L.length = m := by rw [hL, List.length_map, F.out.em]
  obtain ⟨dd, hdd⟩ : ∃ dd, dd = dimN sa q := ⟨_, rfl⟩
  have hdd4 : dd ≤ 4 := by rw [hdd]; exact Nat.le_trans (dimN_le sa q) k2
  have hLo : OkL dd mm L := by rw [hL, hdd]; exact ok_cells sa F.out.right hl4 F.out.c16
  rw [← hL] at hmk
  have HMK := Lib.hid hmk
  have HLo := Lib.hid hLo
  have HLm := Lib.hid hLm
  have HLL := Lib.hid hL
  have HFA := Lib.hid (fun (set : Int) (W : World) (hW : Below w2.heap.size w2 W) (e1 : 0 ≤ set) (e2 : set ≤ 15) => rFacts_any D m d C mm set l W (F.out.rows.below hW (Nat.le_refl _)) F.out.em k4 F.out.small HL4.out (by omega) e1 e2)
  have hLi : ∀ x ∈ L, inK .i64 x.cnt := by rw [hL]; exact ofC_cnt sa l
  have hL1 : ∀ x ∈ L, x.cnt = 1 := by rw [hL]; exact ofC_one sa l
  have HL1 := Lib.hid hL1
  have RUN := Lib.hid (fun (P : Option Addr) (c N k : Nat) (W : World) (hK : RowC W P N L) (hN : N = m) => rruns6 P c N k dd mm L W hK (by omega) (by omega) hLo (by omega) (by omega))
  have Hb24 := Lib.hid (Hb2.out.trans (HB4.out.mono Hb2.out.size))
  clear hl4 hL hLm hdd hLo hmk hLi hL1
  go_wp2_with fail
  refine (HMK.out w4 HB4.out).mono ?_
  rintro e w5 ⟨lv, us, rfl, hg, hb5⟩
  obtain ⟨Pl, cl, fl, -, -, -, hPl⟩ := hg.form
  have hul := hg.len
  rw [HLm.out] at hul
  rw [hul] at fl
  subst fl
  have RL := Lib.hid hg.rowC.1
  have HPL := Lib.hid hPl
  have HGL := Lib.hid hg
  have HB5 := Lib.hid (HB4.out.trans (hb5.mono HB4.out.size))
  have Hb5 := Lib.hid (Hb24.out.trans (hb5.mono Hb24.out.size))
  have Hb45 := Lib.hid hb5
  clear hul hg hb5 hPl
  obtain ⟨Js, hJs⟩ : ∃ Js, Js = runsP 4 [] L := ⟨_, rfl⟩
  obtain ⟨R, hR⟩ : ∃ R, R = Js.length := ⟨_, rfl⟩
  have hRm : R ≤ 40 := by rw [hR, hJs]; have := runs_num (m := 4) (by omega) L; have := HLm.out; omega
  have hgr : grpR Js.flatten = grpR L := by rw [hJs]; exact runs_gr
  have hMP : MPk mm Js := by rw [hJs]; exact mpk_runs (by omega) HLo.out (by omega) (by have := HLm.out; omega)
  have hMO : MOk mm Js := by rw [hJs]; exact mok_runs (by omega) HLo.out (by omega) (by have := HLm.out; omega)
  have hMG := fun (P : Option Addr) (c f : Nat) (W : World) (hC : RCc W P R Js) (hc : R ≤ c) (f1 : 2 ≤ f) (f2 : f ≤ 9223372036854775807) => mMerge_any P c R mm f Js W hR (by omega) hc f1 f2 hC hMP (by omega)
  rw [hgr] at hMG
  have MG := Lib.hid hMG
  have hRG := fun (P : Option Addr) (c f : Nat) (W : World) (hC : RC W P R Js) (f1 : 2 ≤ f) (f2 : f ≤ 1000) => rMerge_any P c R f mm Js W hC hR (by omega) f1 f2 hMO (by omega)
  rw [hgr] at hRG
  have RMG := Lib.hid hRG
  obtain ⟨NG, hNG⟩ : ∃ NG, NG = (grpR L).length := ⟨_, rfl⟩
  have hNm : NG ≤ 40 := by have := grp_le L; have := HLm.out; omega
  have HNG := Lib.hid hNG
  have HJs := Lib.hid hJs
  have HR := Lib.hid hR
  have hfew : FewC (grpR L) := (grp_okL HLo.out).few (by omega) (by omega)
  have HFEW := Lib.hid hfew
  clear hJs hR hgr hMP hMO hMG hRG hNG hfew
  have SML := Lib.hid (runs_small (m := 4) (by omega) HLo.out (by omega) (by omega) (by rw [HLm.out]; omega))
  have B0 := Lib.hid (Below.refl w5.heap.size w5)
  go_wp2_with fail
  have hr := RUN.out Pl cl m 4 w5 (RL.out.keep (Keeps.of_below B0.out)) rfl
  rw [← HJs.out, ← HR.out] at hr
  refine hr.mono ?_
  clear hr
  rintro e x1 ⟨P1, c1, rfl, hC1, hN1, b1⟩
  have HC1 := Lib.hid hC1
  have B1 := Lib.hid (B0.out.trans (b1.mono B0.out.size))
  clear hC1 b1
  go_wp2_with fail
  refine (HMK.out x1 (HB5.out.trans (B1.out.mono HB5.out.size))).mono ?_
  rintro e x2 ⟨mv, um, rfl, hgm, b2⟩
  obtain ⟨Pm, cm, fm, -⟩ := hgm.form
  have hum := hgm.len
  rw [HLm.out] at hum
  rw [hum] at fm
  subst fm
  have RM := Lib.hid hgm.rowC.1
  have HC2 := Lib.hid (HC1.out.keep (Keeps.of_below b2))
  have B2 := Lib.hid (B1.out.trans (b2.mono B1.out.size))
  clear hum hgm b2
  go_wp2_with fail
  have hr := RUN.out Pm cm m 4 x2 RM.out rfl
  rw [← HJs.out, ← HR.out] at hr
  refine hr.mono ?_
  clear hr
  rintro e x3 ⟨P3, c3, rfl, hC3, -, b3⟩
  have HC3 := Lib.hid hC3
  have HC1' := Lib.hid (HC2.out.keep (Keeps.of_below b3))
  have B3 := Lib.hid (B2.out.trans (b3.mono B2.out.size))
  clear hC3 b3
  obtain ⟨pp, hpp⟩ : ∃ p, p = passN 2 R := ⟨_, rfl⟩
  have hm := MG.out P1 c1 2 x3 HC1'.out.rcc (by omega) (by omega) (by omega)
  rw [← hpp] at hm
  have HM := Lib.hid hm
  have HSR := Lib.hid (fun (W : World) (hW : Below x3.heap.size x3 W) => rSameR_any P1 P3 c1 c3 R Js W (HC1'.out.keep (Keeps.of_below hW)) (HC3.out.keep (Keeps.of_below hW)) HR.out (by rw [HJs.out]; exact SML.out.2) (by omega))
  clear hm hpp
  go_wp2_with fail
  refine HM.out.mono ?_
  rintro e x4 ⟨⟨v4, u4, rfl, g4⟩, b4⟩
  obtain ⟨P4, c4, f4, -⟩ := g4.form
  have l4 : u4.length = NG := by rw [g4.len, HNG.out]
  rw [l4] at f4
  have hACC : 1 ≤ NG → ∃ g c, P4 = some ⟨g, 0, none⟩ ∧ x3.heap.size ≤ g ∧ (∀ j, x4.frozen? ⟨g, j, none⟩ = false) ∧ ∀ k, k < NG → (∃ n, x4.cell? ⟨g, k * 5 + 1, none⟩ = some (.int .i64 n)) ∧ ∃ Pk ck Px cx, x4.cell? ⟨g, k * 5, none⟩ = some (.slice Pk dd ck) ∧ x4.cell? ⟨g, k * 5 + 4, none⟩ = some (.slice Px mm cx) ∧ NumB x3.heap.size x4 Pk dd ∧ NumB x3.heap.size x4 Px mm := fun hn => by
    obtain ⟨g, c, e, h1, h2, h3⟩ := g4.accs2 (me := mm) (d := dd) (by rw [← HNG.out]; exact hn) (grp_okL HLo.out)
    rw [f4] at e
    injection e with e1 _ _
    rw [← HNG.out] at h3
    exact ⟨g, c, e1, h1, h2, h3⟩
  subst f4
  have HACC := Lib.hid hACC
  have B4 := Lib.hid b4
  clear g4 b4 l4 hACC
  go_upto_block 0 with (fail)
  go_cut [] (fun wx => Shp x3.heap.size x4 wx)
  case first =>
    go_wp2_with fail
    go_loopw [20] (fun s20 wr => ∃ (i : Nat), s20 = .int .i64 i ∧ i ≤ NG ∧ Shp x3.heap.size x4 wr) (fun s20 _ => NG - (intOf s20).toNat)
    case atStart => exact ⟨0, rfl, Nat.zero_le _, Shp.refl _ _⟩
    case round =>
      obtain ⟨k, rfl, hk, hs⟩ := hrel
      rename World => wr
      have HS := Lib.hid hs
      clear hs
      by_cases hlt : k < NG
      · have d1 : decide ((k : Int) < (NG : Int)) = true := decide_eq_true (by omega)
        obtain ⟨g, c, rfl, hgB, hfz, hcell⟩ := HACC.out (by omega)
        obtain ⟨hcn, Pk, ck, Px, cx, hk0, hk4, hNk, hNx⟩ := hcell k hlt
        have hfc := HS.out.fz _ (hfz (k * 5 + 1))
        obtain ⟨vc, hvc⟩ := HS.out.ex _ ⟨_, hcn.choose_spec⟩
        have hw := HS.out.write hcn hgB a5
        obtain ⟨wk, hwk⟩ : ∃ wk, wk = wr.setCell ⟨g, k * 5 + 1, none⟩ (.int .i64 a5) := ⟨_, rfl⟩
        rw [← hwk] at hw
        have HWK := Lib.hid hwk
        have HSK := Lib.hid hw
        have HK0 := Lib.hid (fun (W : World) (hW : Shp x3.heap.size x4 W) => hW.same _ _ hk0 slice_nint)
        have HK4 := Lib.hid (fun (W : World) (hW : Shp x3.heap.size x4 W) => hW.same _ _ hk4 slice_nint)
        have HNk := Lib.hid hNk
        have HNx := Lib.hid hNx
        have j0 : (0 : Int) ≤ (k : Int) := by omega
        have j1 : (k : Int) < (NG : Int) := by omega
        clear hcn hfz hcell hk0 hk4 hNk hNx hw hwk
        go_wp2_with fail
        rw [← HWK.out]
        clear hvc hfc
        go_loopw [21] (fun s21 wz => ∃ (j : Nat), s21 = .int .i64 j ∧ j ≤ mm ∧ Shp x3.heap.size x4 wz) (fun s21 _ => mm - (intOf s21).toNat)
        case atStart => exact ⟨0, rfl, Nat.zero_le _, HSK.out⟩
        case round =>
          obtain ⟨j, rfl, hj, hs3⟩ := hrel
          rename World => wz
          have HS3 := Lib.hid hs3
          have a4' := HK4.out wz hs3
          clear hs3
          by_cases hlj : j < mm
          · have d3 : decide ((j : Int) < (mm : Int)) = true := decide_eq_true (by omega)
            obtain ⟨gx, rfl, hb1, hz1, hcc⟩ := HNx.out (by omega)
            have h1 := hcc j hlj
            obtain ⟨v1, hv1⟩ := HS3.out.ex _ ⟨_, h1.choose_spec⟩
            have f1 := HS3.out.fz _ (hz1 j)
            have hm1 := HS3.out.write h1 hb1 a5
            have FIN := Lib.hid hm1
            have l0 : (0 : Int) ≤ (j : Int) := by omega
            have l1 : (j : Int) < (mm : Int) := by omega
            clear hcc h1 hz1 hm1
            go_wp2
            go_roundw
            case rel => exact ⟨j + 1, by go_num, by omega, FIN.out⟩
            case measure => simp [intOf]; omega
          · obtain rfl : j = mm := by omega
            have d3 : decide ((j : Int) < (j : Int)) = false := by simp
            go_wp2_with fail
            go_loopw [22] (fun s22 wy => ∃ (z : Nat), s22 = .int .i64 z ∧ z ≤ dd ∧ Shp x3.heap.size x4 wy) (fun s22 _ => dd - (intOf s22).toNat)
            case atStart => exact ⟨0, rfl, Nat.zero_le _, HS3.out⟩
            case round =>
              obtain ⟨z, rfl, hz, hs5⟩ := hrel
              rename World => wy
              have HS5 := Lib.hid hs5
              have a0' := HK0.out wy hs5
              clear hs5
              by_cases hlz : z < dd
              · have d5 : decide ((z : Int) < (dd : Int)) = true := decide_eq_true (by omega)
                obtain ⟨gk, rfl, hb1, hz1, hcc⟩ := HNk.out (by omega)
                have h1 := hcc z hlz
                obtain ⟨v1, hv1⟩ := HS5.out.ex _ ⟨_, h1.choose_spec⟩
                have f1 := HS5.out.fz _ (hz1 z)
                have hm1 := HS5.out.write h1 hb1 a5
                have FIN := Lib.hid hm1
                have l0 : (0 : Int) ≤ (z : Int) := by omega
                have l1 : (z : Int) < (dd : Int) := by omega
                clear hcc h1 hz1 hm1
                go_wp2
                go_roundw
                case rel => exact ⟨z + 1, by go_num, by omega, FIN.out⟩
                case measure => simp [intOf]; omega
              · obtain rfl : z = dd := by omega
                have d5 : decide ((z : Int) < (z : Int)) = false := by simp
                go_wp2
                go_roundw
                case rel => exact ⟨k + 1, by go_num, by omega, HS5.out⟩
                case measure => simp [intOf]; omega
      · obtain rfl : k = NG := by omega
        have d1 : decide ((k : Int) < (k : Int)) = false := by simp
        go_wp2
        go_meet
        exact HS.out
  case rest =>
    have hb9 := B4.out.trans hcut.bel
    rename World => w9
    have B9 := Lib.hid (B3.out.trans (hb9.mono B3.out.size))
    have HSM := Lib.hid (HSR.out w9 hb9)
    clear hcut hb9
    go_wp2_with fail
    refine HSM.out.mono ?_
    rintro e x9 ⟨rfl, b9⟩
    have BE := Lib.hid (B9.out.trans (b9.mono B9.out.size))
    clear b9
    have HEnd := Lib.hid (Hb5.out.trans (BE.out.mono Hb5.out.size))
    go_wp2
    go_ret
    exact ⟨rfl, HEnd.out⟩
end Go.Proofs.Ytmolfcccfekcpaa
