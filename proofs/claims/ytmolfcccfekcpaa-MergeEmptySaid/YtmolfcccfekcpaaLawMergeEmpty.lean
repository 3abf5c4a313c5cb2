/- Rows of runs that a law lays itself; what lists that rise come to. -/
import Derived.IntWalk
import Derived.Test.YtmolfcccfekcpaaRrow6
import Derived.Test.YtmolfcccfekcpaaGood5
import Derived.Test.YtmolfcccfekcpaaMath5
import Derived.Test.YtmolfcccfekcpaaFactsLaw2
import Derived.Test.YtmolfcccfekcpaaSet
import Derived.Test.YtmolfcccfekcpaaIsRow
import Derived.Test.YtmolfcccfekcpaaRfacts
namespace Go.Proofs.Ytmolfcccfekcpaa
open Go.RowKit Go.Shelf
theorem rcc_list {X : World} {b n : Nat} {vs : List Value} {Js : List (List Cel)} (o : Own 31 X b vs) (h : ∀ (i : Nat) (J : List Cel), Js[i]? = some J → ∃ Pi ci, vs[i]? = some (Value.slice Pi J.length ci) ∧ RowC X Pi J.length J ∧ J.length ≤ ci) : RCc X (some ⟨b, 0, none⟩) n Js := fun _ => ⟨_, rfl, fun i J hJ => by
  obtain ⟨Pi, ci, h1, h2, h3⟩ := h i J hJ
  exact ⟨Pi, ci, by rw [add0]; exact o.cell h1, h2, h3⟩⟩
theorem RCc.rc {X : World} {P : Option Addr} {n : Nat} {Js : List (List Cel)} (h : RCc X P n Js) : RC X P n Js := fun hn => by
  obtain ⟨ad, e, hc⟩ := h hn
  refine ⟨ad, e, fun i J hJ => ?_⟩
  obtain ⟨Pi, ci, h1, h2, -⟩ := hc i J hJ
  exact ⟨Pi, ci, h1, h2⟩
theorem rcc_one {w X : World} {P : Option Addr} {N c : Nat} {J : List Cel} (hX : X = w.alloc (.cells #[.slice P N c] 31)) (h : RowC w P N J) (hN : N = J.length) (hc : N ≤ c) : RCc X (some ⟨w.heap.size, 0, none⟩) 1 [J] ∧ Below w.heap.size w X := by
  have hb : Below w.heap.size w X := by rw [hX]; exact (Below.refl _ _).alloc (Nat.le_refl _) _
  have o : Own 31 X w.heap.size [.slice P N c] := by rw [hX]; exact heap_alloc_new w _
  refine ⟨rcc_list o fun i K hK => ?_, hb⟩
  rcases i with _ | i
  · simp only [List.getElem?_cons_zero, Option.some.injEq] at hK
    subst hK
    rw [← hN]
    exact ⟨P, c, rfl, h.keep (Keeps.of_below hb), hc⟩
  · simp at hK
theorem rcc_two {w X : World} {P Q : Option Addr} {N c M d : Nat} {J K : List Cel} (hX : X = w.alloc (.cells #[.slice P N c, .slice Q M d] 31)) (h : RowC w P N J) (hN : N = J.length) (hc : N ≤ c) (h2 : RowC w Q M K) (hM : M = K.length) (hd : M ≤ d) : RCc X (some ⟨w.heap.size, 0, none⟩) 2 [J, K] ∧ Below w.heap.size w X := by
  have hb : Below w.heap.size w X := by rw [hX]; exact (Below.refl _ _).alloc (Nat.le_refl _) _
  have o : Own 31 X w.heap.size [.slice P N c, .slice Q M d] := by rw [hX]; exact heap_alloc_new w _
  refine ⟨rcc_list o fun i G hG => ?_, hb⟩
  rcases i with _ | _ | i
  · simp only [List.getElem?_cons_zero, Option.some.injEq] at hG
    subst hG
    rw [← hN]
    exact ⟨P, c, rfl, h.keep (Keeps.of_below hb), hc⟩
  · simp only [List.getElem?_cons_succ, List.getElem?_cons_zero, Option.some.injEq] at hG
    subst hG
    rw [← hM]
    exact ⟨Q, d, rfl, h2.keep (Keeps.of_below hb), hd⟩
  · simp at hG
theorem pass_two {f : Nat} (hf : 2 ≤ f) : passN f 2 = 1 := by
  rw [passN_more (by omega) hf, passN_one (by
    have : (2 + f - 1) / f < 2 := by rw [Nat.div_lt_iff_lt_mul (by omega)]; omega
    omega)]
theorem two_self_len : ∀ (G : List Cel), (twoP G G).length = G.length
  | [] => by rw [twoP_nil]
  | x :: l => by
    have h0 : cmpL x.key x.key = 0 := cmpL_zero.2 rfl
    rw [twoP_cons, if_neg (by omega), if_pos h0, List.length_cons, List.length_cons, two_self_len l]
theorem grp_self_len {G : List Cel} (h : RiseC G) : (grpR (G ++ G)).length = G.length := by rw [← two_grp h h, two_self_len]
theorem OkL.app {d mm : Nat} {L K : List Cel} (h : OkL d mm L) (h2 : OkL d mm K) : OkL d mm (L ++ K) := fun x hx => by
  rcases List.mem_append.1 hx with hx | hx
  · exact h x hx
  · exact h2 x hx
theorem grp_one {G : List Cel} (h : RiseC G) : grpR [G].flatten = G := by
  have : [G].flatten = G := by simp
  rw [this]
  have h1 := two_grp h (show RiseC [] by simp [RiseC])
  rw [twoP_nil2, List.append_nil] at h1
  exact h1.symm
theorem mpk_two {d me : Nat} {J K : List Cel} (hJ : RiseC J) (hK : RiseC K) (oJ : OkL d me J) (oK : OkL d me K) (hd : d ≤ 1000000) (hl : J.length + K.length ≤ 1000) : MPk me [J, K] :=
  have hfl : [J, K].flatten = J ++ K := by simp
  MPk.of_ok (d := d) (fun G hG => by
    simp at hG
    rcases hG with rfl | rfl
    · exact hJ
    · exact hK) (by rw [hfl]; exact oJ.app oK) hd (by rw [hfl, List.length_append]; exact hl)
theorem wpList_append_eqg {P : Program} {ops : Array Oper} {rest : List Oper} {o : Oper} {a : Act} {w : World} {Q : Exit → Act → World → Prop} (hw : Region.wanted o (yielded ops a.tmps) = true) (s x : Operand) (t : TypeId)
    (ho : o.op = .call { callee := .builtin .append, args := #[s, x], argTypes := #[t, t] }) (v y v' : Value) (w' : World) (hs : a.eval s = v) (hx : a.eval x = y)
    (hrun : (Builtin.append_ #[t, t] o.type #[v, y]).run P w = .ok v' w') (h : wpList P ops Q rest (a.put o.dst v') w') : wpList P ops Q (o :: rest) a w :=
  wpList_step fun K hK => by
    rw [if_pos hw]
    unfold Oper.wp execOp
    simp only [ho, resolve, invoke, builtin, Sem.run_bind, Sem.run_pure, Result.andThen_ok, List.map_toArray, List.map_cons, List.map_nil, hs, hx, hrun]
    exact hK _ _ h
theorem rise_nil : RiseC [] := by simp [RiseC]
theorem okL_nil {d me : Nat} : OkL d me [] := fun x hx => absurd hx List.not_mem_nil
theorem grp_nil_right {G : List Cel} (h : RiseC G) : grpR (G ++ []) = G := by rw [← two_grp h rise_nil, twoP_nil2]
theorem grp_nil_left {G : List Cel} (h : RiseC G) : grpR ([] ++ G) = G := by rw [← two_grp rise_nil h, twoP_nil]
theorem rowC_nil {W : World} {P : Option Addr} : RowC W P 0 [] := fun h => absurd h (by omega)
theorem grp_turn (J K : List Cel) : grpR (J ++ K) = grpR (K ++ J) := grpR_perm List.perm_append_comm
end Go.Proofs.Ytmolfcccfekcpaa
/- A row of runs that a law makes grow, the runs in an elder world. -/
namespace Go.Proofs.Ytmolfcccfekcpaa
open Go.RowKit Go.Shelf
def OutR (w0 X : World) (v : Value) (us : List Value) (Ts : List (List Cel)) : Prop := X.ownsRow w0.heap.size 31 1 v us.length us ∧ us.length = Ts.length ∧ Below w0.heap.size w0 X ∧ ∀ (i : Nat) (u : Value) (J : List Cel), us[i]? = some u → Ts[i]? = some J → ∃ P c, u = .slice P J.length c ∧ RowC w0 P J.length J ∧ J.length ≤ c
theorem OutR.nil (w0 : World) : OutR w0 w0 (.slice none 0 0) [] [] := ⟨World.ownsRow_nil _ _ _ _, rfl, Below.refl _ _, fun i u J h => by simp at h⟩
theorem OutR.put {w0 X : World} {v : Value} {us : List Value} {Ts : List (List Cel)} {J : List Cel} {P : Option Addr} {n c : Nat} (h : OutR w0 X v us Ts) (hr : RowC w0 P n J) (hn : n = J.length) (hc : n ≤ c) (hl : Ts.length + 1 ≤ 1000000) :
    ∃ v' Y, (Builtin.append_ #[29, 29] 29 #[v, .slice (some ⟨X.heap.size, 0, none⟩) 1 1]).run Try.prog (X.alloc (.cells #[.slice P n c] 31)) = .ok v' Y ∧ OutR w0 Y v' (us ++ [.slice P n c]) (Ts ++ [J]) := by
  obtain ⟨h1, h2, h3, h4⟩ := h
  obtain ⟨v', Y, hrun, hr2, ht, -⟩ := append_word1 h1 (u := .slice P n c) rfl (by omega) h3.size
  have hb := ht.below (B := w0.heap.size) (fun k hk => (h1.lt k hk).1) h3.size
  refine ⟨v', Y, hrun, hr2, by rw [List.length_append, List.length_append, h2]; rfl, h3.trans hb, fun i u K hu hK => ?_⟩
  rcases Nat.lt_or_ge i us.length with hi | hi
  · rw [List.getElem?_append_left hi] at hu
    rw [List.getElem?_append_left (by rw [← h2]; exact hi)] at hK
    exact h4 i u K hu hK
  · rw [List.getElem?_append_right hi] at hu
    rw [List.getElem?_append_right (by rw [← h2]; exact hi), ← h2] at hK
    obtain ⟨z, hz⟩ : ∃ z, z = i - us.length := ⟨_, rfl⟩
    rw [← hz] at hu hK
    rcases z with _ | z
    · simp only [List.getElem?_cons_zero, Option.some.injEq] at hu hK
      subst hu hK
      rw [← hn]
      exact ⟨P, c, rfl, hr, hc⟩
    · simp at hu
theorem OutR.form {w0 X : World} {v : Value} {us : List Value} {Ts : List (List Cel)} (h : OutR w0 X v us Ts) : ∃ P c, v = .slice P Ts.length c ∧ Ts.length ≤ c ∧ RCc X P Ts.length Ts := by
  obtain ⟨h1, h2, h3, h4⟩ := h
  obtain ⟨P, c, e, hc, -, hf⟩ := own_form h1
  rw [h2] at e hc hf
  refine ⟨P, c, e, hc, fun hn => ?_⟩
  obtain ⟨g, rfl, -, hq⟩ := hf hn
  refine ⟨_, rfl, fun i J hJ => ?_⟩
  have hi : i < us.length := by rw [h2]; exact (List.getElem?_eq_some_iff.1 hJ).1
  obtain ⟨u, hu⟩ : ∃ u, us[i]? = some u := ⟨_, List.getElem?_eq_getElem hi⟩
  obtain ⟨Pi, ci, rfl, hr, hci⟩ := h4 i u J hu hJ
  exact ⟨Pi, ci, by rw [add0]; exact hq i _ hu, hr.keep (Keeps.of_below h3), hci⟩
end Go.Proofs.Ytmolfcccfekcpaa
/- The law MergeEmpty. -/
namespace Go.Proofs.Ytmolfcccfekcpaa
open Go.RowKit
attribute [local go_sem] Oper.semAt_some
set_option maxRecDepth 100000 in
set_option maxHeartbeats 8000000 in
theorem mergeEmpty_walk (a0 : Int) (a1 : Option Addr) (len1 cap1 : Nat) (z1 : List Int) (a2 : Int) (a3 : Option Addr) (len3 cap3 : Nat) (z3 : List Int) (a4 : Int) (a5 : Option Addr) (len5 cap5 : Nat) (z5 : List Int) (w : World) (h0 : inK .i64 a0) (w1 : IsRow .i64 w a1 len1 cap1 z1) (h2 : inK .i64 a2) (w3 : IsRow .i64 w a3 len3 cap3 z3) (h4 : inK .i64 a4) (w5 : IsRow .i64 w a5 len5 cap5 z5) :
    Calls Try.prog 7 #[.int .i64 a0, .slice a1 len1 cap1, .int .i64 a2, .slice a3 len3 cap3, .int .i64 a4, .slice a5 len5 cap5] w fun e w' => e = .returned (.bool true) ∧ Below w.heap.size w w' := by
  obtain ⟨n1, lc1, cm1⟩ := w1.nums
  obtain ⟨n3, lc3, cm3⟩ := w3.nums
  obtain ⟨n5, lc5, cm5⟩ := w5.nums
  have N5 := Lib.hid n5
  clear w5 n5
  have HW := Lib.hid (fun (x n : Int) (W : World) (h : inK .i64 x) (e1 : 1 ≤ n) (e2 : n ≤ 100) => lwithin6 x n W h e1 (by omega))
  have N1 := Lib.hid n1
  have N3 := Lib.hid n3
  have HKn := Lib.hid (known6_any w)
  clear w1 w3 n1 n3
  go_enter Try.func7, Try.ntmps7
  go_wp2_with fail
  refine HKn.out.mono ?_
  rintro e w1 ⟨rfl, hb1⟩
  have Hb1 := Lib.hid hb1
  clear hb1 HKn
  go_wp2_with fail
  refine (Facts_res a0 a2 a1 a3 len1 cap1 len3 cap3 _ _ w1 (N1.out.keep (Keeps.of_below Hb1.out)) (N3.out.keep (Keeps.of_below Hb1.out)) (by omega) (by omega) h0 h2).mono ?_
  rintro e w2 ⟨A, c, D, d, C, q, mm, m, cs, l, rfl, hF⟩
  have F := Lib.hid hF
  obtain ⟨k1, k2, k3, k4⟩ : 1 ≤ q ∧ q ≤ 4 ∧ mm ≤ 2 ∧ m ≤ 40 := ⟨hF.q1, hF.q4, hF.m2, hF.m40⟩
  have hb2 : Below w.heap.size w w2 := Hb1.out.trans (hF.below.mono Hb1.out.size)
  have hb3 : Below w2.heap.size w2 (w2.alloc (.cells #[.slice A q c, .int .i64 mm] 25)) := (Below.refl _ _).alloc (Nat.le_refl _) _
  obtain ⟨s1, s2, s3⟩ := set_bd a4 q k1 k2
  have Hb2 := Lib.hid hb2
  have Hb3 := Lib.hid hb3
  clear hF hb2 hb3 N1 N3
  go_wp2_with fail
  refine (set_any A q c mm a4 _ k1 k2 h4).mono ?_
  rintro e w4 ⟨rfl, rfl⟩
  obtain ⟨sa, hsa⟩ : ∃ sa, sa = a4 % 2 ^ q := ⟨_, rfl⟩
  rw [← hsa] at s1 s2 s3 ⊢
  have HSA := Lib.hid hsa
  clear hsa
  have hb4 : Below w2.heap.size w2 ((w2.alloc (.cells #[.slice A q c, .int .i64 mm] 25)).alloc (.cells #[.slice A q c, .int .i64 mm] 25)) := Hb3.out.alloc Hb3.out.size _
  have HB4 := Lib.hid hb4
  clear hb4
  have os : Own 25 ((w2.alloc (.cells #[.slice A q c, .int .i64 mm] 25)).alloc (.cells #[.slice A q c, .int .i64 mm] 25)) w2.heap.size [.slice A q c, .int .i64 mm] := (Below.heap_alloc _ _ _ (by simp)).trans (heap_alloc_new w2 _)
  have OS := Lib.hid os
  clear os
  generalize (w2.alloc (.cells #[.slice A q c, .int .i64 mm] 25)).alloc (.cells #[.slice A q c, .int .i64 mm] 25) = w4 at HB4 OS ⊢
  have hl4 : ∀ r ∈ l, r.key.length = q ∧ r.m.length = mm := F.out.lens
  have HL4 := Lib.hid (fun r hr => (show r.key.length ≤ 4 ∧ r.m.length = mm from ⟨by rw [(hl4 r hr).1]; exact k2, (hl4 r hr).2⟩))
  have hmk := fun W (hW : Below w2.heap.size w2 W) => make_any D m d C sa l W (F.out.rows.below hW (Nat.le_refl _)) F.out.em k4 F.out.small (fun r hr => by have := hl4 r hr; omega) s1 s2
  obtain ⟨L, hL⟩ : ∃ L, L = l.map (ofC sa) := ⟨_, rfl⟩
  have hLm : L.length = m := by rw [hL, List.length_map, F.out.em]
  obtain ⟨dd, hdd⟩ : ∃ dd, dd = dimN sa q := ⟨_, rfl⟩
  have hdd4 : dd ≤ 4 := by rw [hdd]; exact Nat.le_trans (dimN_le sa q) k2
  have hLo : OkL dd mm L := by rw [hL, hdd]; exact ok_cells sa F.out.right hl4 F.out.c16
  rw [← hL] at hmk
  have HMK := Lib.hid hmk
  have HLo := Lib.hid hLo
  have HLm := Lib.hid hLm
  have HLL := Lib.hid hL
  have HFA := Lib.hid (fun (set : Int) (W : World) (hW : Below w2.heap.size w2 W) (e1 : 0 ≤ set) (e2 : set ≤ 15) => rFacts_any D m d C mm set l W (F.out.rows.below hW (Nat.le_refl _)) F.out.em k4 F.out.small HL4.out (by omega) e1 e2)
  have hLi : ∀ x ∈ L, inK .i64 x.cnt := by rw [hL]; exact ofC_cnt sa l
  have hL1 : ∀ x ∈ L, x.cnt = 1 := by rw [hL]; exact ofC_one sa l
  have HL1 := Lib.hid hL1
  have RUN := Lib.hid (fun (P : Option Addr) (c N k : Nat) (W : World) (hK : RowC W P N L) (hN : N = m) => rruns6 P c N k dd mm L W hK (by omega) (by omega) hLo (by omega) (by omega))
  have Hb24 := Lib.hid (Hb2.out.trans (HB4.out.mono Hb2.out.size))
  clear hl4 hL hLm hdd hLo hmk hLi hL1
  go_wp2_with fail
  refine (HMK.out w4 HB4.out).mono ?_
  rintro e w5 ⟨lv, us, rfl, hg, hb5⟩
  obtain ⟨Pl, cl, fl, -, -, -, hPl⟩ := hg.form
  have hul := hg.len
  rw [HLm.out] at hul
  rw [hul] at fl
  subst fl
  have RL := Lib.hid hg.rowC.1
  have HPL := Lib.hid hPl
  have HGL := Lib.hid hg
  have HB5 := Lib.hid (HB4.out.trans (hb5.mono HB4.out.size))
  have Hb5 := Lib.hid (Hb24.out.trans (hb5.mono Hb24.out.size))
  have Hb45 := Lib.hid hb5
  clear hul hg hb5 hPl
  obtain ⟨Js, hJs⟩ : ∃ Js, Js = runsP 3 [] L := ⟨_, rfl⟩
  obtain ⟨R, hR⟩ : ∃ R, R = Js.length := ⟨_, rfl⟩
  have hRm : R ≤ 40 := by rw [hR, hJs]; have := runs_num (m := 3) (by omega) L; have := HLm.out; omega
  have hgr : grpR Js.flatten = grpR L := by rw [hJs]; exact runs_gr
  have hMP : MPk mm Js := by rw [hJs]; exact mpk_runs (by omega) HLo.out (by omega) (by have := HLm.out; omega)
  have hMO : MOk mm Js := by rw [hJs]; exact mok_runs (by omega) HLo.out (by omega) (by have := HLm.out; omega)
  have hMG := fun (P : Option Addr) (c f : Nat) (W : World) (hC : RCc W P R Js) (hc : R ≤ c) (f1 : 2 ≤ f) (f2 : f ≤ 9223372036854775807) => mMerge_any P c R mm f Js W hR (by omega) hc f1 f2 hC hMP (by omega)
  rw [hgr] at hMG
  have MG := Lib.hid hMG
  have hRG := fun (P : Option Addr) (c f : Nat) (W : World) (hC : RC W P R Js) (f1 : 2 ≤ f) (f2 : f ≤ 1000) => rMerge_any P c R f mm Js W hC hR (by omega) f1 f2 hMO (by omega)
  rw [hgr] at hRG
  have RMG := Lib.hid hRG
  obtain ⟨NG, hNG⟩ : ∃ NG, NG = (grpR L).length := ⟨_, rfl⟩
  have hNm : NG ≤ 40 := by have := grp_le L; have := HLm.out; omega
  have HNG := Lib.hid hNG
  have HJs := Lib.hid hJs
  have HR := Lib.hid hR
  have hfew : FewC (grpR L) := (grp_okL HLo.out).few (by omega) (by omega)
  have HFEW := Lib.hid hfew
  clear hJs hR hgr hMP hMO hMG hRG hNG hfew
  have B0 := Lib.hid (Below.refl w5.heap.size w5)
  go_wp2_with fail
  have hr := RUN.out Pl cl m 3 w5 (RL.out.keep (Keeps.of_below B0.out)) rfl
  rw [← HJs.out, ← HR.out] at hr
  refine hr.mono ?_
  clear hr
  rintro e x1 ⟨P1, c1, rfl, hC1, hN1, b1⟩
  have HC1 := Lib.hid hC1
  have B1 := Lib.hid (B0.out.trans (b1.mono B0.out.size))
  clear hC1 b1
  have HB1 := Lib.hid (Hb5.out.trans (B1.out.mono Hb5.out.size))
  obtain ⟨zs, hzs⟩ : ∃ zs, zs = z5.take len5 := ⟨_, rfl⟩
  have N6 := N5.out
  rw [← hzs] at N6
  have hAT : ∀ (W : World), Below w.heap.size w W → ∀ i, i < len5 → ∃ ad v, a5 = some ad ∧ W.cell? (ad.add i) = some (.int .i64 v) ∧ inK .i64 v := fun W hW i hi => by
    obtain ⟨ad, e, hc⟩ := N6.2.2 (by omega)
    obtain ⟨v, hv⟩ : ∃ v, zs[i]? = some v := ⟨_, List.getElem?_eq_getElem (by rw [N6.1]; exact hi)⟩
    exact ⟨ad, v, e, Keeps.of_below hW _ _ (hc i v hv), N6.2.1 v (List.mem_of_getElem? hv)⟩
  have HAT := Lib.hid hAT
  clear N6 hAT hzs
  go_wp2_with fail
  go_loopw [17, 18] (fun s17 s18 wr => ∃ (i : Nat) (us : List Value) (Ts : List (List Cel)), s18 = .int .i64 i ∧ i ≤ R ∧ OutR x1 wr s17 us Ts ∧ Ts.flatten = (Js.take i).flatten ∧ (∀ J ∈ Ts, J = [] ∨ J ∈ Js) ∧ Ts.length ≤ 3 * i) (fun _ s18 _ => R - (intOf s18).toNat)
  case atStart => exact ⟨0, [], [], rfl, Nat.zero_le _, OutR.nil _, by simp, fun J hJ => absurd hJ List.not_mem_nil, by simp⟩
  case round =>
    obtain ⟨i, us, Ts, rfl, hi, hO, hfl, hmem, hlen⟩ := hrel
    rename World => wr
    have HO := Lib.hid hO
    have HFl := Lib.hid hfl
    have HMem := Lib.hid hmem
    clear hO hfl hmem
    by_cases hlt : i < R
    · have d1 : decide ((i : Int) < (R : Int)) = true := decide_eq_true (by omega)
      go_wp2_with fail
      go_loopw [17, 19] (fun s17 s19 wy => ∃ (j : Nat) (us : List Value) (Ts : List (List Cel)), s19 = .int .i64 j ∧ j ≤ 2 ∧ OutR x1 wy s17 us Ts ∧ Ts.flatten = (Js.take i).flatten ∧ (∀ J ∈ Ts, J = [] ∨ J ∈ Js) ∧ Ts.length ≤ 3 * i + j) (fun _ s19 _ => 3 - (intOf s19).toNat)
      case atStart => exact ⟨0, us, Ts, rfl, Nat.zero_le _, HO.out, HFl.out, HMem.out, hlen⟩
      case round =>
        obtain ⟨j, us2, Ts2, rfl, hj, hO2, hfl2, hmem2, hlen2⟩ := hrel
        rename World => wy
        have HO2 := Lib.hid hO2
        have HFl2 := Lib.hid hfl2
        have HMem2 := Lib.hid hmem2
        have HBy := Lib.hid (HB1.out.trans (hO2.2.2.1.mono HB1.out.size))
        clear hO2 hfl2 hmem2
        obtain ⟨st, hst⟩ : ∃ st : Bool, st = (if i < len5 then true else false) := ⟨_, rfl⟩
        by_cases hil : i < len5
        · have d2 : decide ((i : Int) < (len5 : Int)) = true := decide_eq_true (by omega)
          obtain ⟨ad, v, e5, hv, hvi⟩ := HAT.out wy HBy.out i hil
          subst e5
          have i0 : (0 : Int) ≤ (i : Int) := by omega
          have i1 : (i : Int) < (len5 : Int) := by omega
          obtain ⟨kv, hkv⟩ : ∃ kv : Nat, (kv : Int) = v % 3 := ⟨(v % 3).toNat, by omega⟩
          have hkvn : kv < 3 := by omega
          have Hkv := Lib.hid hkv
          have Hvi := Lib.hid hvi
          clear hkv hvi
          go_wp2_with fail
          refine (HW.out v 3 wy Hvi.out (by omega) (by omega)).mono ?_
          rintro e w' ⟨rfl, hw'⟩
          subst hw'
          rw [← Hkv.out]
          by_cases hjk : j < kv
          · have d3 : decide ((j : Int) < (kv : Int)) = true := decide_eq_true (by omega)
            have d3n : decide (j < kv) = true := decide_eq_true hjk
            obtain ⟨v', Y, hrun, hP⟩ := HO2.out.put (P := none) (c := 0) rowC_nil rfl (Nat.le_refl _) (by omega)
            have Hrun := Lib.hid hrun
            have HP := Lib.hid hP
            clear hrun hP
            go_wp2_with (first | (at_builtin; have _t := Hrun; refine wpList_append_eq rfl (.tmp 60) (.tmp 61) 29 rfl _ _ _ _ rfl rfl Hrun.out ?_; clear _t Hrun) | fail)
            go_roundw
            case rel => exact ⟨j + 1, _, _, by go_num, by omega, HP.out, by rw [List.flatten_append, HFl2.out]; simp, fun J hJ => by
              rcases List.mem_append.1 hJ with hJ | hJ
              · exact HMem2.out J hJ
              · rw [List.mem_singleton] at hJ
                exact .inl hJ, by rw [List.length_append]; simp; omega⟩
            case measure => simp [intOf]; omega
          · have d3 : decide ((j : Int) < (kv : Int)) = false := decide_eq_false (by omega)
            have d3n : decide (j < kv) = false := decide_eq_false hjk
            obtain ⟨adO, eP, hcO⟩ := HC1.out (by omega)
            obtain ⟨J, hJ⟩ : ∃ J, Js[i]? = some J := ⟨_, List.getElem?_eq_getElem (by rw [← HR.out]; exact hlt)⟩
            obtain ⟨Pi, ci, a0, hrow, hci, -⟩ := hcO i J hJ
            obtain ⟨jl, hjl⟩ : ∃ j, j = J.length := ⟨_, rfl⟩
            rw [← hjl] at a0 hrow hci
            have a1 := Keeps.of_below HO2.out.2.2.1 _ _ a0
            subst eP
            have j0 : (0 : Int) ≤ (i : Int) := by omega
            have j1 : (i : Int) < (R : Int) := by omega
            obtain ⟨v', Y, hrun, hP⟩ := HO2.out.put hrow hjl hci (by omega)
            have hT1 : (Ts2 ++ [J]).flatten = (Js.take (i + 1)).flatten := by rw [List.flatten_append, HFl2.out, List.take_add_one, hJ, List.flatten_append]; simp
            have hT2 : ∀ K ∈ Ts2 ++ [J], K = [] ∨ K ∈ Js := fun K hK => by
              rcases List.mem_append.1 hK with hK | hK
              · exact HMem2.out K hK
              · rw [List.mem_singleton] at hK
                rw [hK]
                exact .inr (List.mem_of_getElem? hJ)
            have Hrun := Lib.hid hrun
            have HP := Lib.hid hP
            have HT1 := Lib.hid hT1
            have HT2 := Lib.hid hT2
            clear hrun hP hcO hJ a0 hrow hci hjl hT1 hT2
            go_wp2_with (first | (at_builtin; have _t := Hrun; refine wpList_append_eq rfl (.tmp 63) (.tmp 68) 29 rfl _ _ _ _ rfl rfl Hrun.out ?_; clear _t Hrun) | fail)
            go_roundw
            case rel => exact ⟨i + 1, _, _, by go_num, by omega, HP.out, HT1.out, HT2.out, by rw [List.length_append]; simp; omega⟩
            case measure => simp [intOf]; omega
        · have d2 : decide ((i : Int) < (len5 : Int)) = false := decide_eq_false (by omega)
          obtain ⟨adO, eP, hcO⟩ := HC1.out (by omega)
          obtain ⟨J, hJ⟩ : ∃ J, Js[i]? = some J := ⟨_, List.getElem?_eq_getElem (by rw [← HR.out]; exact hlt)⟩
          obtain ⟨Pi, ci, a0, hrow, hci, -⟩ := hcO i J hJ
          obtain ⟨jl, hjl⟩ : ∃ j, j = J.length := ⟨_, rfl⟩
          rw [← hjl] at a0 hrow hci
          have a1 := Keeps.of_below HO2.out.2.2.1 _ _ a0
          subst eP
          have j0 : (0 : Int) ≤ (i : Int) := by omega
          have j1 : (i : Int) < (R : Int) := by omega
          obtain ⟨v', Y, hrun, hP⟩ := HO2.out.put hrow hjl hci (by omega)
          have hT1 : (Ts2 ++ [J]).flatten = (Js.take (i + 1)).flatten := by rw [List.flatten_append, HFl2.out, List.take_add_one, hJ, List.flatten_append]; simp
          have hT2 : ∀ K ∈ Ts2 ++ [J], K = [] ∨ K ∈ Js := fun K hK => by
            rcases List.mem_append.1 hK with hK | hK
            · exact HMem2.out K hK
            · rw [List.mem_singleton] at hK
              rw [hK]
              exact .inr (List.mem_of_getElem? hJ)
          have Hrun := Lib.hid hrun
          have HP := Lib.hid hP
          have HT1 := Lib.hid hT1
          have HT2 := Lib.hid hT2
          clear hrun hP hcO hJ a0 hrow hci hjl hT1 hT2
          go_wp2_with (first | (at_builtin; have _t := Hrun; refine wpList_append_eq rfl (.tmp 63) (.tmp 68) 29 rfl _ _ _ _ rfl rfl Hrun.out ?_; clear _t Hrun) | fail)
          go_roundw
          case rel => exact ⟨i + 1, _, _, by go_num, by omega, HP.out, HT1.out, HT2.out, by rw [List.length_append]; simp; omega⟩
          case measure => simp [intOf]; omega
    · obtain rfl : i = R := by omega
      have d1 : decide ((i : Int) < (i : Int)) = false := by simp
      obtain ⟨Pt, ct, ft, hct, hRC⟩ := HO.out.form
      obtain ⟨NT, hNT⟩ : ∃ N, N = Ts.length := ⟨_, rfl⟩
      rw [← hNT] at ft hct hRC hlen
      have hfl : Ts.flatten = Js.flatten := by rw [HFl.out, HR.out, List.take_length]
      have hbr := HO.out.2.2.1
      clear HO
      subst ft
      have hMPJ : MPk mm Js := by rw [HJs.out]; exact mpk_runs (by omega) HLo.out (by omega) (by have := HLm.out; omega)
      have hMP : MPk mm Ts := ⟨fun J hJ => by
        rcases HMem.out J hJ with rfl | h
        · exact rise_nil
        · exact hMPJ.1 J h, by rw [hfl]; exact hMPJ.2.1, by rw [hfl]; exact hMPJ.2.2⟩
      have hm := mMerge_any Pt ct NT mm 3 Ts wr hNT (by omega) hct (by omega) (by omega) hRC hMP (by omega)
      rw [hfl, show grpR Js.flatten = grpR L by rw [HJs.out]; exact runs_gr] at hm
      obtain ⟨pp, hpp⟩ : ∃ p, p = passN 3 NT := ⟨_, rfl⟩
      rw [← hpp] at hm
      have HM := Lib.hid hm
      have B2 := Lib.hid (B1.out.trans (hbr.mono B1.out.size))
      clear hm hMP hMPJ hfl hRC hbr hNT hpp
      go_wp2_with fail
      refine HM.out.mono ?_
      rintro e x3 ⟨⟨v3, u3, rfl, g3⟩, b3⟩
      obtain ⟨P3, c3, f3, n3, -⟩ := g3.form
      have l3 : u3.length = NG := by rw [g3.len, HNG.out]
      rw [l3] at f3 n3
      subst f3
      have R3 := Lib.hid g3.rowC.1
      have B3 := Lib.hid (B2.out.trans (b3.mono B2.out.size))
      clear g3 b3 l3
      go_wp2_with fail
      have hm := HFA.out sa x3 (HB5.out.trans (B3.out.mono HB5.out.size)) s1 s2
      rw [← HLL.out] at hm
      refine hm.mono ?_
      clear hm
      rintro e x4 ⟨v4, u4, rfl, g4, b4⟩
      obtain ⟨P4, c4, f4, n4, -⟩ := g4.form
      have l4 : u4.length = NG := by rw [g4.len, HNG.out]
      rw [l4] at f4 n4
      subst f4
      have R4 := Lib.hid g4.rowC.1
      have K34 := Lib.hid b4
      have B4 := Lib.hid (B3.out.trans (b4.mono B3.out.size))
      clear g4 b4 l4
      go_wp2_with fail
      refine (same_yes P3 P4 NG c3 c4 (grpR L) x4 (R3.out.keep (Keeps.of_below K34.out)) R4.out HNG.out HFEW.out (by omega)).mono ?_
      rintro e x5 ⟨rfl, b5⟩
      have B5 := Lib.hid (B4.out.trans (b5.mono B4.out.size))
      clear b5
      have HEnd := Lib.hid (Hb5.out.trans (B5.out.mono Hb5.out.size))
      go_wp2
      go_ret
      exact ⟨rfl, HEnd.out⟩
end Go.Proofs.Ytmolfcccfekcpaa
