/- Rows of runs that a law lays itself; what lists that rise come to. -/
import Derived.IntWalk
import Derived.Test.YtmolfcccfekcpaaRrow6
import Derived.Test.YtmolfcccfekcpaaGood5
import Derived.Test.YtmolfcccfekcpaaMath5
import Derived.Test.YtmolfcccfekcpaaFactsLaw2
import Derived.Test.YtmolfcccfekcpaaSet
import Derived.Test.YtmolfcccfekcpaaIsRow
import Derived.Test.YtmolfcccfekcpaaRfacts
import Derived.Test.YtmolfcccfekcpaaRgroup
namespace Go.Proofs.Ytmolfcccfekcpaa
open Go.RowKit Go.Shelf
theorem rcc_list {X : World} {b n : Nat} {vs : List Value} {Js : List (List Cel)} (o : Own 31 X b vs) (h : ∀ (i : Nat) (J : List Cel), Js[i]? = some J → ∃ Pi ci, vs[i]? = some (Value.slice Pi J.length ci) ∧ RowC X Pi J.length J ∧ J.length ≤ ci) : RCc X (some ⟨b, 0, none⟩) n Js := fun _ => ⟨_, rfl, fun i J hJ => by
  obtain ⟨Pi, ci, h1, h2, h3⟩ := h i J hJ
  exact ⟨Pi, ci, by rw [add0]; exact o.cell h1, h2, h3⟩⟩
theorem RCc.rc {X : World} {P : Option Addr} {n : Nat} {Js : List (List Cel)} (h : RCc X P n Js) : RC X P n Js := fun hn => by
  obtain ⟨ad, e, hc⟩ := h hn
  refine ⟨ad, e, fun i J hJ => ?_⟩
  obtain ⟨Pi, ci, h1, h2, -⟩ := hc i J hJ
  exact ⟨Pi, ci, h1, h2⟩
theorem rcc_one {w X : World} {P : Option Addr} {N c : Nat} {J : List Cel} (hX : X = w.alloc (.cells #[.slice P N c] 31)) (h : RowC w P N J) (hN : N = J.length) (hc : N ≤ c) : RCc X (some ⟨w.heap.size, 0, none⟩) 1 [J] ∧ Below w.heap.size w X := by
  have hb : Below w.heap.size w X := by rw [hX]; exact (Below.refl _ _).alloc (Nat.le_refl _) _
  have o : Own 31 X w.heap.size [.slice P N c] := by rw [hX]; exact heap_alloc_new w _
  refine ⟨rcc_list o fun i K hK => ?_, hb⟩
  rcases i with _ | i
  · simp only [List.getElem?_cons_zero, Option.some.injEq] at hK
    subst hK
    rw [← hN]
    exact ⟨P, c, rfl, h.keep (Keeps.of_below hb), hc⟩
  · simp at hK
theorem rcc_two {w X : World} {P Q : Option Addr} {N c M d : Nat} {J K : List Cel} (hX : X = w.alloc (.cells #[.slice P N c, .slice Q M d] 31)) (h : RowC w P N J) (hN : N = J.length) (hc : N ≤ c) (h2 : RowC w Q M K) (hM : M = K.length) (hd : M ≤ d) : RCc X (some ⟨w.heap.size, 0, none⟩) 2 [J, K] ∧ Below w.heap.size w X := by
  have hb : Below w.heap.size w X := by rw [hX]; exact (Below.refl _ _).alloc (Nat.le_refl _) _
  have o : Own 31 X w.heap.size [.slice P N c, .slice Q M d] := by rw [hX]; exact heap_alloc_new w _
  refine ⟨rcc_list o fun i G hG => ?_, hb⟩
  rcases i with _ | _ | i
  · simp only [List.getElem?_cons_zero, Option.some.injEq] at hG
    subst hG
    rw [← hN]
    exact ⟨P, c, rfl, h.keep (Keeps.of_below hb), hc⟩
  · simp only [List.getElem?_cons_succ, List.getElem?_cons_zero, Option.some.injEq] at hG
    subst hG
    rw [← hM]
    exact ⟨Q, d, rfl, h2.keep (Keeps.of_below hb), hd⟩
  · simp at hG
theorem pass_two {f : Nat} (hf : 2 ≤ f) : passN f 2 = 1 := by
  rw [passN_more (by omega) hf, passN_one (by
    have : (2 + f - 1) / f < 2 := by rw [Nat.div_lt_iff_lt_mul (by omega)]; omega
    omega)]
theorem two_self_len : ∀ (G : List Cel), (twoP G G).length = G.length
  | [] => by rw [twoP_nil]
  | x :: l => by
    have h0 : cmpL x.key x.key = 0 := cmpL_zero.2 rfl
    rw [twoP_cons, if_neg (by omega), if_pos h0, List.length_cons, List.length_cons, two_self_len l]
theorem grp_self_len {G : List Cel} (h : RiseC G) : (grpR (G ++ G)).length = G.length := by rw [← two_grp h h, two_self_len]
theorem OkL.app {d mm : Nat} {L K : List Cel} (h : OkL d mm L) (h2 : OkL d mm K) : OkL d mm (L ++ K) := fun x hx => by
  rcases List.mem_append.1 hx with hx | hx
  · exact h x hx
  · exact h2 x hx
theorem grp_one {G : List Cel} (h : RiseC G) : grpR [G].flatten = G := by
  have : [G].flatten = G := by simp
  rw [this]
  have h1 := two_grp h (show RiseC [] by simp [RiseC])
  rw [twoP_nil2, List.append_nil] at h1
  exact h1.symm
theorem mpk_two {d me : Nat} {J K : List Cel} (hJ : RiseC J) (hK : RiseC K) (oJ : OkL d me J) (oK : OkL d me K) (hd : d ≤ 1000000) (hl : J.length + K.length ≤ 1000) : MPk me [J, K] :=
  have hfl : [J, K].flatten = J ++ K := by simp
  MPk.of_ok (d := d) (fun G hG => by
    simp at hG
    rcases hG with rfl | rfl
    · exact hJ
    · exact hK) (by rw [hfl]; exact oJ.app oK) hd (by rw [hfl, List.length_append]; exact hl)
theorem wpList_append_eqg {P : Program} {ops : Array Oper} {rest : List Oper} {o : Oper} {a : Act} {w : World} {Q : Exit → Act → World → Prop} (hw : Region.wanted o (yielded ops a.tmps) = true) (s x : Operand) (t : TypeId)
    (ho : o.op = .call { callee := .builtin .append, args := #[s, x], argTypes := #[t, t] }) (v y v' : Value) (w' : World) (hs : a.eval s = v) (hx : a.eval x = y)
    (hrun : (Builtin.append_ #[t, t] o.type #[v, y]).run P w = .ok v' w') (h : wpList P ops Q rest (a.put o.dst v') w') : wpList P ops Q (o :: rest) a w :=
  wpList_step fun K hK => by
    rw [if_pos hw]
    unfold Oper.wp execOp
    simp only [ho, resolve, invoke, builtin, Sem.run_bind, Sem.run_pure, Result.andThen_ok, List.map_toArray, List.map_cons, List.map_nil, hs, hx, hrun]
    exact hK _ _ h
theorem rise_nil : RiseC [] := by simp [RiseC]
theorem okL_nil {d me : Nat} : OkL d me [] := fun _ hx => absurd hx List.not_mem_nil
theorem grp_nil_right {G : List Cel} (h : RiseC G) : grpR (G ++ []) = G := by rw [← two_grp h rise_nil, twoP_nil2]
theorem grp_nil_left {G : List Cel} (h : RiseC G) : grpR ([] ++ G) = G := by rw [← two_grp rise_nil h, twoP_nil]
theorem rowC_nil {W : World} {P : Option Addr} : RowC W P 0 [] := fun h => absurd h (by omega)
theorem grp_turn (J K : List Cel) : grpR (J ++ K) = grpR (K ++ J) := grpR_perm List.perm_append_comm
end Go.Proofs.Ytmolfcccfekcpaa
/- The law MergeTwo. -/
namespace Go.Proofs.Ytmolfcccfekcpaa
open Go.RowKit
attribute [local go_sem] Oper.semAt_some
set_option maxRecDepth 100000 in
set_option maxHeartbeats 8000000 in
theorem mergeTwo_walk (a0 : Int) (a1 : Option Addr) (len1 cap1 : Nat) (z1 : List Int) (a2 : Int) (a3 : Option Addr) (len3 cap3 : Nat) (z3 : List Int) (a4 : Option Addr) (len4 cap4 : Nat) (z4 : List Int) (a5 : Int) (w : World) (h0 : inK .i64 a0) (w1 : IsRow .i64 w a1 len1 cap1 z1) (h2 : inK .i64 a2) (w3 : IsRow .i64 w a3 len3 cap3 z3) (w4 : IsRow .i64 w a4 len4 cap4 z4) (h5 : inK .i64 a5) :
    Calls Try.prog 4 #[.int .i64 a0, .slice a1 len1 cap1, .int .i64 a2, .slice a3 len3 cap3, .slice a4 len4 cap4, .int .i64 a5] w fun e w' => e = .returned (.bool true) ∧ Below w.heap.size w w' := by
  obtain ⟨n1, lc1, cm1⟩ := w1.nums
  have N1 := Lib.hid n1
  clear w1 n1
  obtain ⟨n3, lc3, cm3⟩ := w3.nums
  have N3 := Lib.hid n3
  clear w3 n3
  obtain ⟨n4, lc4, cm4⟩ := w4.nums
  have N4 := Lib.hid n4
  clear w4 n4
  have HKn := Lib.hid (known6_any w)
  go_enter Try.func4, Try.ntmps4
  go_wp2_with fail
  refine HKn.out.mono ?_
  rintro e y0 ⟨rfl, hb1⟩
  have E0 := Lib.hid hb1
  clear hb1 HKn
  go_wp2_with fail
  refine (Facts_res a0 a2 a1 a3 len1 cap1 len3 cap3 _ _ y0 (N1.out.keep (Keeps.of_below E0.out)) (N3.out.keep (Keeps.of_below E0.out)) (by omega) (by omega) h0 h2).mono ?_
  rintro e x1 ⟨A1, c1, D1, d1, C1, q1, mm1, m1, cs1, l1, rfl, hF1⟩
  obtain ⟨k1, k2, k3⟩ : 1 ≤ q1 ∧ q1 ≤ 4 ∧ mm1 ≤ 2 := ⟨hF1.q1, hF1.q4, hF1.m2⟩
  have F1 := Lib.hid hF1
  have k41 := hF1.m40
  obtain ⟨y1, hy1⟩ : ∃ y, y = x1.alloc (.cells #[.slice A1 q1 c1, .int .i64 mm1] 25) := ⟨_, rfl⟩
  have hbk : Below x1.heap.size x1 y1 := by rw [hy1]; exact (Below.refl _ _).alloc (Nat.le_refl _) _
  have hbx : Below y0.heap.size y0 y1 := hF1.below.trans (hbk.mono hF1.below.size)
  have E1 := Lib.hid (E0.out.trans (hbx.mono E0.out.size))
  have HY1 := Lib.hid hy1
  have W1 := Lib.hid hbk
  have oS : Own 25 y1 x1.heap.size [.slice A1 q1 c1, .int .i64 mm1] := by rw [hy1]; exact heap_alloc_new x1 _
  have hsz : x1.heap.size < y1.heap.size := by rw [hy1]; simp
  obtain ⟨S1, hS1⟩ : ∃ S, S = x1.heap.size := ⟨_, rfl⟩
  have OS1 := Lib.hid oS
  have HS1 := Lib.hid hS1
  have V1 := Lib.hid (Below.refl y1.heap.size y1)
  clear oS hS1
  clear hF1 hy1 hbk hbx
  go_wp2_with fail
  rw [← HY1.out]
  rw [← HS1.out]
  refine (Facts_res a0 a2 a1 a4 len1 cap1 len4 cap4 _ _ y1 (N1.out.keep (Keeps.of_below E1.out)) (N4.out.keep (Keeps.of_below E1.out)) (by omega) (by omega) h0 h2).mono ?_
  rintro e x2 ⟨A2, c2, D2, d2, C2, q2, mm2, m2, cs2, l2, rfl, hF2⟩
  obtain rfl : q1 = q2 := by rw [← hF2.eq, hF2.ecs, ← F1.out.eq, F1.out.ecs]
  obtain rfl : mm1 = mm2 := by rw [hF2.emm, F1.out.emm]
  have F2 := Lib.hid hF2
  have k42 := hF2.m40
  obtain ⟨y2, hy2⟩ : ∃ y, y = x2.alloc (.cells #[.slice A2 q1 c2, .int .i64 mm1] 25) := ⟨_, rfl⟩
  have hbk : Below x2.heap.size x2 y2 := by rw [hy2]; exact (Below.refl _ _).alloc (Nat.le_refl _) _
  have hbx : Below y1.heap.size y1 y2 := hF2.below.trans (hbk.mono hF2.below.size)
  have E2 := Lib.hid (E1.out.trans (hbx.mono E1.out.size))
  have HY2 := Lib.hid hy2
  have W1 := Lib.hid (W1.out.trans (hbx.mono W1.out.size))
  have W2 := Lib.hid hbk
  have V2 := Lib.hid (V1.out.trans (hbx.mono V1.out.size))
  clear hF2 hy2 hbk hbx
  have oS2 := OS1.out.below V2.out (by rw [HS1.out] at *; exact hsz)
  have hnew := HY2.out
  have hc0 : (x2.alloc (.cells #[.slice A2 q1 c2, .int .i64 mm1] 25)).cell? ⟨S1, 0, none⟩ = some (.slice A1 q1 c1) := by rw [HS1.out, ← hnew]; exact oS2.cell (i := 0) rfl
  have hc1 : (x2.alloc (.cells #[.slice A2 q1 c2, .int .i64 mm1] 25)).cell? ⟨S1, 1, none⟩ = some (.int .i64 mm1) := by rw [HS1.out, ← hnew]; exact oS2.cell (i := 1) rfl
  obtain ⟨s1, s2, s3⟩ := set_bd a5 q1 k1 k2
  clear oS2 hsz
  go_wp2_with fail
  rw [← hnew]
  refine (set_any A1 q1 c1 mm1 a5 _ k1 k2 h5).mono ?_
  rintro e yS ⟨rfl, hyS⟩
  obtain ⟨sa, hsa⟩ : ∃ sa, sa = a5 % 2 ^ q1 := ⟨_, rfl⟩
  rw [← hsa] at s1 s2 s3 ⊢
  have BS : Hid (Below w.heap.size w yS) := by rw [hyS]; exact Lib.hid (E2.out.alloc E2.out.size _)
  have W1 : Hid (Below x1.heap.size x1 yS) := by rw [hyS]; exact Lib.hid (W1.out.alloc W1.out.size _)
  have W2 : Hid (Below x2.heap.size x2 yS) := by rw [hyS]; exact Lib.hid (W2.out.alloc W2.out.size _)
  clear hsa hyS hc0 hc1 hnew
  obtain ⟨dd, hdd⟩ : ∃ dd, dd = dimN sa q1 := ⟨_, rfl⟩
  have hdd4 : dd ≤ 4 := by rw [hdd]; exact Nat.le_trans (dimN_le sa q1) k2
  obtain ⟨G1, hG1⟩ : ∃ G, G = grpR (l1.map (ofC sa)) := ⟨_, rfl⟩
  obtain ⟨NG1, hNG1⟩ : ∃ n, n = G1.length := ⟨_, rfl⟩
  have hgo : OkL dd mm1 G1 := by rw [hG1, hdd]; exact grp_okL (ok_cells sa F1.out.right F1.out.lens F1.out.c16)
  have HGR1 := Lib.hid (show RiseC G1 by rw [hG1]; exact grpR_rise _)
  have hNm1 : NG1 ≤ 40 := by rw [hNG1, hG1]; have := grp_le (l1.map (ofC sa)); rw [List.length_map, F1.out.em] at this; omega
  have hlk : ∀ r ∈ l1, r.key.length ≤ 4 ∧ r.m.length = mm1 := fun r hr => ⟨by rw [(F1.out.lens r hr).1]; exact k2, (F1.out.lens r hr).2⟩
  have hfa := fun (W : World) (hW : Below yS.heap.size yS W) => rFacts_any D1 m1 d1 C1 mm1 sa l1 W (F1.out.rows.below (W1.out.trans (hW.mono W1.out.size)) (Nat.le_refl _)) F1.out.em k41 F1.out.small hlk (by omega) s1 (by omega)
  rw [← hG1] at hfa
  have HFA1 := Lib.hid hfa
  have HGO1 := Lib.hid hgo
  have HNG1 := Lib.hid hNG1
  clear hlk hfa hgo hG1 hNG1 F1
  obtain ⟨G2, hG2⟩ : ∃ G, G = grpR (l2.map (ofC sa)) := ⟨_, rfl⟩
  obtain ⟨NG2, hNG2⟩ : ∃ n, n = G2.length := ⟨_, rfl⟩
  have hgo : OkL dd mm1 G2 := by rw [hG2, hdd]; exact grp_okL (ok_cells sa F2.out.right F2.out.lens F2.out.c16)
  have HGR2 := Lib.hid (show RiseC G2 by rw [hG2]; exact grpR_rise _)
  have hNm2 : NG2 ≤ 40 := by rw [hNG2, hG2]; have := grp_le (l2.map (ofC sa)); rw [List.length_map, F2.out.em] at this; omega
  have hlk : ∀ r ∈ l2, r.key.length ≤ 4 ∧ r.m.length = mm1 := fun r hr => ⟨by rw [(F2.out.lens r hr).1]; exact k2, (F2.out.lens r hr).2⟩
  have hfa := fun (W : World) (hW : Below yS.heap.size yS W) => rFacts_any D2 m2 d2 C2 mm1 sa l2 W (F2.out.rows.below (W2.out.trans (hW.mono W2.out.size)) (Nat.le_refl _)) F2.out.em k42 F2.out.small hlk (by omega) s1 (by omega)
  rw [← hG2] at hfa
  have HFA2 := Lib.hid hfa
  have HGO2 := Lib.hid hgo
  have HNG2 := Lib.hid hNG2
  clear hlk hfa hgo hG2 hNG2 F2
  clear hdd
  have B0 := Lib.hid (Below.refl yS.heap.size yS)
  go_wp2_with fail
  refine (HFA1.out yS B0.out).mono ?_
  rintro e x6 ⟨v6, u6, rfl, g6, b6⟩
  obtain ⟨P6, c6, f6, n6, -, p6, z6⟩ := g6.form
  have l6 : u6.length = NG1 := by rw [g6.len, HNG1.out]
  rw [l6] at f6 n6 p6
  subst f6
  have R6 := Lib.hid g6.rowC.1
  have GH6 := Lib.hid (And.intro g6 (And.intro p6 z6))
  have HL6 := Lib.hid l6
  have C6 := Lib.hid b6
  have B6 := Lib.hid (B0.out.trans (b6.mono B0.out.size))
  clear g6 b6 l6 p6 z6
  go_wp2_with fail
  refine (HFA2.out x6 B6.out).mono ?_
  rintro e x7 ⟨v7, u7, rfl, g7, b7⟩
  obtain ⟨P7, c7, f7, n7, -, p7, z7⟩ := g7.form
  have l7 : u7.length = NG2 := by rw [g7.len, HNG2.out]
  rw [l7] at f7 n7 p7
  subst f7
  have R7 := Lib.hid g7.rowC.1
  have GH7 := Lib.hid (And.intro g7 (And.intro p7 z7))
  have HL7 := Lib.hid l7
  have C7 := Lib.hid b7
  have B7 := Lib.hid (B6.out.trans (b7.mono B6.out.size))
  clear g7 b7 l7 p7 z7
  have hN1 := HNG1.out
  have hN2 := HNG2.out
  have rG1 := HGR1.out
  have rG2 := HGR2.out
  have oG1 := HGO1.out
  have oG2 := HGO2.out
  have hGG : OkL dd mm1 (G1 ++ G2) := oG1.app oG2
  obtain ⟨H, hH⟩ : ∃ H, H = grpR (G1 ++ G2) := ⟨_, rfl⟩
  obtain ⟨NH, hNH⟩ : ∃ N, N = H.length := ⟨_, rfl⟩
  have hNHm : NH ≤ 80 := by rw [hNH, hH]; have := grp_le (G1 ++ G2); rw [List.length_append] at this; omega
  have hHf : FewC H := by rw [hH]; exact (grp_okL hGG).few (by omega) (by omega)
  have hHr : riseB H = true := by rw [hH]; exact rise_prs (grpR_rise _)
  have hHk : ∀ y ∈ H, y.key.length ≤ 1000000 := fun y hy => by rw [hH] at hy; have := (grp_okL hGG y hy).1; omega
  have hG1f : FewC G1 := oG1.few (by omega) (by omega)
  have T12 := fun (Pa Pb : Option Addr) (ca cb : Nat) (W : World) (ha : RowC W Pa NG1 G1) (hb : RowC W Pb NG2 G2) (hca : NG1 ≤ ca) (hcb : NG2 ≤ cb) => mTwo_any Pa Pb ca cb NG1 NG2 mm1 G1 G2 W ha hb hN1 hN2 hca hcb (mpk_two rG1 rG2 oG1 oG2 (by omega) (by omega)) (by omega)
  rw [← hH] at T12
  have HT12 := Lib.hid T12
  clear T12
  have T21 := fun (Pa Pb : Option Addr) (ca cb : Nat) (W : World) (ha : RowC W Pa NG2 G2) (hb : RowC W Pb NG1 G1) (hca : NG2 ≤ ca) (hcb : NG1 ≤ cb) => mTwo_any Pa Pb ca cb NG2 NG1 mm1 G2 G1 W ha hb hN2 hN1 hca hcb (mpk_two rG2 rG1 oG2 oG1 (by omega) (by omega)) (by omega)
  rw [grp_turn, ← hH] at T21
  have HT21 := Lib.hid T21
  clear T21
  have T10 := fun (W : World) (P : Option Addr) (c : Nat) (ha : RowC W P NG1 G1) (hca : NG1 ≤ c) => mTwo_any P none c 0 NG1 0 mm1 G1 [] W ha rowC_nil hN1 rfl hca (Nat.le_refl _) (mpk_two rG1 rise_nil oG1 okL_nil (by omega) (by simp; omega)) (by omega)
  rw [grp_nil_right rG1] at T10
  have HT10 := Lib.hid T10
  have T01 := fun (W : World) (P : Option Addr) (c : Nat) (ha : RowC W P NG1 G1) (hca : NG1 ≤ c) => mTwo_any none P 0 c 0 NG1 mm1 [] G1 W rowC_nil ha rfl hN1 (Nat.le_refl _) hca (mpk_two rise_nil rG1 okL_nil oG1 (by omega) (by simp; omega)) (by omega)
  rw [grp_nil_left rG1] at T01
  have HT01 := Lib.hid T01
  have R12 := fun (Pa Pb : Option Addr) (ca cb : Nat) (W : World) (ha : RowC W Pa NG1 G1) (hb : RowC W Pb NG2 G2) => rTwo_any Pa Pb ca cb NG1 NG2 mm1 G1 G2 W ha hb hN1 hN2 (by omega) (by omega) (fun x hx => ⟨(hGG x hx).2.2, by have := (hGG x hx).1; omega⟩) (by omega)
  rw [two_grp rG1 rG2, ← hH] at R12
  have HR12 := Lib.hid R12
  have GP := fun (P : Option Addr) (c N : Nat) (W : World) (h : RowC W P N (G1 ++ G2)) (hN : N = NG1 + NG2) => rGroup_any P c N mm1 (G1 ++ G2) W h (fun x hx => ⟨(hGG x hx).2.2, by have := (hGG x hx).1; omega⟩) (by omega) (by rw [hN, hN1, hN2, List.length_append]) (by omega)
  rw [← hH] at GP
  have HGP := Lib.hid GP
  have HNH := Lib.hid hNH
  have HHF := Lib.hid hHf
  have HHR := Lib.hid hHr
  have HHK := Lib.hid hHk
  have HG1F := Lib.hid hG1f
  clear hN1 hN2 rG1 rG2 oG1 oG2 hGG hH hNH hHf hHr hHk hG1f T10 T01 R12 GP
  go_wp2_with fail
  refine (HT12.out P6 P7 c6 c7 x7 (R6.out.keep (Keeps.of_below C7.out)) R7.out n6 n7).mono ?_
  rintro e x8 ⟨⟨v8, u8, rfl, g8⟩, b8⟩
  obtain ⟨P8, c8, f8, n8, -⟩ := g8.form
  have l8 : u8.length = NH := by rw [g8.len, HNH.out]
  rw [l8] at f8 n8
  subst f8
  have R8 := Lib.hid g8.rowC.1
  have C8 := Lib.hid b8
  have B8 := Lib.hid (B7.out.trans (b8.mono B7.out.size))
  clear g8 b8 l8
  go_wp2_with fail
  refine (HT21.out P7 P6 c7 c6 x8 (R7.out.keep (Keeps.of_below C8.out)) ((R6.out.keep (Keeps.of_below C7.out)).keep (Keeps.of_below C8.out)) n7 n6).mono ?_
  rintro e x9 ⟨⟨v9, u9, rfl, g9⟩, b9⟩
  obtain ⟨P9, c9, f9, n9, -⟩ := g9.form
  have l9 : u9.length = NH := by rw [g9.len, HNH.out]
  rw [l9] at f9 n9
  subst f9
  have R9 := Lib.hid g9.rowC.1
  have C9 := Lib.hid b9
  have B9 := Lib.hid (B8.out.trans (b9.mono B8.out.size))
  clear g9 b9 l9
  go_wp2_with fail
  refine (HR12.out P6 P7 c6 c7 x9 (((R6.out.keep (Keeps.of_below C7.out)).keep (Keeps.of_below C8.out)).keep (Keeps.of_below C9.out)) ((R7.out.keep (Keeps.of_below C8.out)).keep (Keeps.of_below C9.out))).mono ?_
  rintro e x10 ⟨v10, u10, rfl, g10, b10⟩
  obtain ⟨P10, c10, f10, n10, -⟩ := g10.form
  have l10 : u10.length = NH := by rw [g10.len, HNH.out]
  rw [l10] at f10 n10
  subst f10
  have R10 := Lib.hid g10.rowC.1
  have C10 := Lib.hid b10
  have B10 := Lib.hid (B9.out.trans (b10.mono B9.out.size))
  clear g10 b10 l10
  go_wp2_with fail
  refine (same_yes P8 P10 NH c8 c10 H x10 ((R8.out.keep (Keeps.of_below C9.out)).keep (Keeps.of_below C10.out)) R10.out HNH.out HHF.out (by omega)).mono ?_
  rintro e x11 ⟨rfl, b11⟩
  have C11 := Lib.hid b11
  have B11 := Lib.hid (B10.out.trans (b11.mono B10.out.size))
  clear b11
  go_wp2_with fail
  refine (same_yes P8 P9 NH c8 c9 H x11 (((R8.out.keep (Keeps.of_below C9.out)).keep (Keeps.of_below C10.out)).keep (Keeps.of_below C11.out)) ((R9.out.keep (Keeps.of_below C10.out)).keep (Keeps.of_below C11.out)) HNH.out HHF.out (by omega)).mono ?_
  rintro e x12 ⟨rfl, b12⟩
  have C12 := Lib.hid b12
  have B12 := Lib.hid (B11.out.trans (b12.mono B11.out.size))
  clear b12
  have hrs := rSorted_any P8 c8 NH H x12 ((((R8.out.keep (Keeps.of_below C9.out)).keep (Keeps.of_below C10.out)).keep (Keeps.of_below C11.out)).keep (Keeps.of_below C12.out)) HNH.out HHK.out (by omega)
  rw [HHR.out] at hrs
  have HRS := Lib.hid hrs
  clear hrs
  go_wp2_with fail
  refine HRS.out.mono ?_
  rintro e x13 ⟨rfl, b13⟩
  have C13 := Lib.hid b13
  have B13 := Lib.hid (B12.out.trans (b13.mono B12.out.size))
  clear b13
  obtain ⟨wz, hwz⟩ : ∃ W, W = x13.alloc (.cells #[] 44) := ⟨_, rfl⟩
  have hz : Below x13.heap.size x13 wz := by rw [hwz]; exact (Below.refl _ _).alloc (Nat.le_refl _) _
  have hsz : x13.heap.size < wz.heap.size := by rw [hwz]; simp
  obtain ⟨g6, p6, z6⟩ := GH6.out
  obtain ⟨g7, p7, z7⟩ := GH7.out
  have q6 : Below x6.heap.size x6 x7 := C7.out
  have q6 : Below x6.heap.size x6 x8 := q6.trans (C8.out.mono q6.size)
  have q6 : Below x6.heap.size x6 x9 := q6.trans (C9.out.mono q6.size)
  have q6 : Below x6.heap.size x6 x10 := q6.trans (C10.out.mono q6.size)
  have q6 : Below x6.heap.size x6 x11 := q6.trans (C11.out.mono q6.size)
  have q6 : Below x6.heap.size x6 x12 := q6.trans (C12.out.mono q6.size)
  have q6 : Below x6.heap.size x6 x13 := q6.trans (C13.out.mono q6.size)
  have q7 : Below x7.heap.size x7 x8 := C8.out
  have q7 : Below x7.heap.size x7 x9 := q7.trans (C9.out.mono q7.size)
  have q7 : Below x7.heap.size x7 x10 := q7.trans (C10.out.mono q7.size)
  have q7 : Below x7.heap.size x7 x11 := q7.trans (C11.out.mono q7.size)
  have q7 : Below x7.heap.size x7 x12 := q7.trans (C12.out.mono q7.size)
  have q7 : Below x7.heap.size x7 x13 := q7.trans (C13.out.mono q7.size)
  have hl0 : GRs yS.heap.size wz (.slice (some ⟨x13.heap.size, 0, none⟩) 0 0) [] [] := by rw [hwz]; exact lit_new B13.out.size
  obtain ⟨v8z, X3, hrun3, hg3, hb3, hv3⟩ := app_part (C := x13.heap.size) (m := NG1) (c := c6) (A := P6) hl0 ((g6.below q6).below hz).2 HL6.out.symm n6 z6 (fun h => by
    obtain ⟨g, e, -, -, -, h1⟩ := p6 h
    exact ⟨⟨g, 0, none⟩, e, fun j u hu => by rw [add0]; exact Keeps.of_below (q6.trans (hz.mono q6.size)) _ _ (h1 j u hu)⟩) (by simp; omega) (Nat.le_trans B13.out.size (Nat.le_of_lt hsz)) (Nat.le_of_lt hsz) (fun b hb => by simp [Value.ownBlock] at hb; omega)
  have hb3z : Below x13.heap.size x13 X3 := hz.trans hb3
  obtain ⟨v9z, X4, hrun4, hg4, hb4, -⟩ := app_part (C := x13.heap.size) (m := NG2) (c := c7) (A := P7) hg3 (((g7.mono C6.out.size).below q7).below hb3z).2 HL7.out.symm n7 z7 (fun h => by
    obtain ⟨g, e, -, -, -, h1⟩ := p7 h
    exact ⟨⟨g, 0, none⟩, e, fun j u hu => by rw [add0]; exact Keeps.of_below (q7.trans (hb3z.mono q7.size)) _ _ (h1 j u hu)⟩) (by rw [List.nil_append, HL6.out]; omega) (Nat.le_trans B13.out.size hb3z.size) hb3z.size hv3
  obtain ⟨P14, c14, e14, -⟩ := hg4.form
  subst e14
  have hg5 : GRs yS.heap.size X4 (.slice P14 (NG1 + NG2) c14) (u6 ++ u7) (G1 ++ G2) := by
    have e : ([] ++ u6 ++ u7).length = NG1 + NG2 := by simp [HL6.out, HL7.out]
    rw [e] at hg4
    simpa using hg4
  have el : ([] ++ u6 ++ u7).length = NG1 + NG2 := by simp [HL6.out, HL7.out]
  rw [el] at hrun4
  obtain ⟨N14, hN14⟩ : ∃ N, N = NG1 + NG2 := ⟨_, rfl⟩
  rw [← hN14] at hrun4 hg5
  have R14 := Lib.hid hg5.rowC.1
  have C14 : Hid (Below x13.heap.size x13 X4) := Lib.hid (hb3z.trans hb4)
  have B14 := Lib.hid (B13.out.trans (C14.out.mono B13.out.size))
  have Hrun3 := Lib.hid hrun3
  have Hrun4 := Lib.hid hrun4
  have HWZ := Lib.hid hwz
  have HN14 := Lib.hid hN14
  obtain ⟨x14, hx14⟩ : ∃ x, x = X4 := ⟨_, rfl⟩
  rw [← hx14] at R14 C14 B14 Hrun4
  clear hz hsz g6 p6 z6 g7 p7 z7 q6 q7 hl0 hrun3 hg3 hb3 hv3 hb3z hrun4 hg4 hb4 hg5 el hx14 X4 hN14 hwz
  go_wp2_with (first | (at_builtin; (rw [← HWZ.out]; have _t := Hrun3; refine wpList_append_eqg (by kernel_rfl) (.tmp 71) (.tmp 72) 31 rfl _ _ _ _ rfl rfl Hrun3.out ?_; clear _t Hrun3 HWZ)) | (at_builtin; have _t := Hrun4; refine wpList_append_eqg (by kernel_rfl) (.tmp 73) (.tmp 74) 31 rfl _ _ _ _ rfl rfl Hrun4.out ?_; clear _t Hrun4) | fail)
  refine (HGP.out P14 c14 N14 x14 R14.out HN14.out).mono ?_
  rintro e x15 ⟨v15, u15, rfl, g15, b15⟩
  obtain ⟨P15, c15, f15, n15, -⟩ := g15.form
  have l15 : u15.length = NH := by rw [g15.len, HNH.out]
  rw [l15] at f15 n15
  subst f15
  have R15 := Lib.hid g15.rowC.1
  have C15 := Lib.hid b15
  have B15 := Lib.hid (B14.out.trans (b15.mono B14.out.size))
  clear g15 b15 l15
  go_wp2_with fail
  refine (same_yes P8 P15 NH c8 c15 H x15 (((((((R8.out.keep (Keeps.of_below C9.out)).keep (Keeps.of_below C10.out)).keep (Keeps.of_below C11.out)).keep (Keeps.of_below C12.out)).keep (Keeps.of_below C13.out)).keep (Keeps.of_below C14.out)).keep (Keeps.of_below C15.out)) R15.out HNH.out HHF.out (by omega)).mono ?_
  rintro e x16 ⟨rfl, b16⟩
  have C16 := Lib.hid b16
  have B16 := Lib.hid (B15.out.trans (b16.mono B15.out.size))
  clear b16
  go_wp2_with fail
  refine (HT10.out x16 P6 c6 ((((((((((R6.out.keep (Keeps.of_below C7.out)).keep (Keeps.of_below C8.out)).keep (Keeps.of_below C9.out)).keep (Keeps.of_below C10.out)).keep (Keeps.of_below C11.out)).keep (Keeps.of_below C12.out)).keep (Keeps.of_below C13.out)).keep (Keeps.of_below C14.out)).keep (Keeps.of_below C15.out)).keep (Keeps.of_below C16.out)) n6).mono ?_
  rintro e x17 ⟨⟨v17, u17, rfl, g17⟩, b17⟩
  obtain ⟨P17, c17, f17, n17, -⟩ := g17.form
  have l17 : u17.length = NG1 := by rw [g17.len, HNG1.out]
  rw [l17] at f17 n17
  subst f17
  have R17 := Lib.hid g17.rowC.1
  have C17 := Lib.hid b17
  have B17 := Lib.hid (B16.out.trans (b17.mono B16.out.size))
  clear g17 b17 l17
  go_wp2_with fail
  refine (same_yes P17 P6 NG1 c17 c6 G1 x17 R17.out (((((((((((R6.out.keep (Keeps.of_below C7.out)).keep (Keeps.of_below C8.out)).keep (Keeps.of_below C9.out)).keep (Keeps.of_below C10.out)).keep (Keeps.of_below C11.out)).keep (Keeps.of_below C12.out)).keep (Keeps.of_below C13.out)).keep (Keeps.of_below C14.out)).keep (Keeps.of_below C15.out)).keep (Keeps.of_below C16.out)).keep (Keeps.of_below C17.out)) HNG1.out HG1F.out (by omega)).mono ?_
  rintro e x18 ⟨rfl, b18⟩
  have C18 := Lib.hid b18
  have B18 := Lib.hid (B17.out.trans (b18.mono B17.out.size))
  clear b18
  go_wp2_with fail
  refine (HT01.out x18 P6 c6 ((((((((((((R6.out.keep (Keeps.of_below C7.out)).keep (Keeps.of_below C8.out)).keep (Keeps.of_below C9.out)).keep (Keeps.of_below C10.out)).keep (Keeps.of_below C11.out)).keep (Keeps.of_below C12.out)).keep (Keeps.of_below C13.out)).keep (Keeps.of_below C14.out)).keep (Keeps.of_below C15.out)).keep (Keeps.of_below C16.out)).keep (Keeps.of_below C17.out)).keep (Keeps.of_below C18.out)) n6).mono ?_
  rintro e x19 ⟨⟨v19, u19, rfl, g19⟩, b19⟩
  obtain ⟨P19, c19, f19, n19, -⟩ := g19.form
  have l19 : u19.length = NG1 := by rw [g19.len, HNG1.out]
  rw [l19] at f19 n19
  subst f19
  have R19 := Lib.hid g19.rowC.1
  have C19 := Lib.hid b19
  have B19 := Lib.hid (B18.out.trans (b19.mono B18.out.size))
  clear g19 b19 l19
  go_wp2_with fail
  refine (same_yes P19 P6 NG1 c19 c6 G1 x19 R19.out (((((((((((((R6.out.keep (Keeps.of_below C7.out)).keep (Keeps.of_below C8.out)).keep (Keeps.of_below C9.out)).keep (Keeps.of_below C10.out)).keep (Keeps.of_below C11.out)).keep (Keeps.of_below C12.out)).keep (Keeps.of_below C13.out)).keep (Keeps.of_below C14.out)).keep (Keeps.of_below C15.out)).keep (Keeps.of_below C16.out)).keep (Keeps.of_below C17.out)).keep (Keeps.of_below C18.out)).keep (Keeps.of_below C19.out)) HNG1.out HG1F.out (by omega)).mono ?_
  rintro e x20 ⟨rfl, b20⟩
  have C20 := Lib.hid b20
  have B20 := Lib.hid (B19.out.trans (b20.mono B19.out.size))
  clear b20
  have HEnd := Lib.hid (BS.out.trans (B20.out.mono BS.out.size))
  go_wp2
  go_ret
  exact ⟨rfl, HEnd.out⟩
end Go.Proofs.Ytmolfcccfekcpaa
