/- The reference's table: Len, Get. -/
import Derived.IntWalk
import Derived.Test.YtioddfodajinlaaHshr1
import Derived.Test.YtioddfodajinlaaCelg
import Derived.Test.YtioddfodajinlaaJoinS
namespace Go.Proofs.Ytioddfodajinlaa
open Go.RowKit
attribute [local go_sem] Oper.semAt_some
theorem rtLen_any (B T gC gI : Nat) (vs : List (Option V5)) (ts : List (Option Cel)) (w : World) (hR : RT B w T gC gI vs ts) :
    Calls Try.prog 16 #[.pointer (some ⟨T, 0, none⟩)] w fun e w' => e = .returned (.int .i64 (cellsT ts).length) ∧ w = w' := by
  have y2 := hR.bx.cell (i := 2) rfl
  clear hR
  go_enter Try.func16, Try.ntmps16
  go_wp2
  go_ret
  exact ⟨rfl, rfl⟩
set_option maxRecDepth 100000 in
set_option maxHeartbeats 4000000 in
theorem rtGet_any (B T gC gI : Nat) (vs : List (Option V5)) (ts : List (Option Cel)) (P : Option Addr) (c K : Nat) (key : List Int) (w : World) (hR : RT B w T gC gI vs ts) (hI : InvT ts) (hx : Nums .i64 w P K key) (hK : K ≤ 1000) (hn2 : ts.length ≤ 10000) (hev : ∀ (i : Nat) (y : Cel), ts[i]? = some (some y) → y.key.length ≤ 1000 ∧ y.sum.length ≤ 1000000 ∧ y.mn.length ≤ 1000000 ∧ y.mx.length ≤ 1000000) :
    Calls Try.prog 18 #[.pointer (some ⟨T, 0, none⟩), .slice P K c] w fun e w' => (∃ k' s' n' m' y is, e = .returned (.tuple #[.agg #[k', .int .i64 y.cnt, s', n', m'], .bool is]) ∧ CR w' k' s' n' m' y ∧ inK .i64 y.cnt ∧ (getT ts key = some y ∧ is = true ∨ getT ts key = none ∧ is = false ∧ y = ⟨[], 0, [], [], []⟩)) ∧ Below w.heap.size w w' := by
  have HFD : Hid (∀ (j : Nat) (x : Cel), ts[j]? = some (some x) → x.key = key → getT ts key = some x) := Lib.hid fun j x hj he => (get_mem hI key x).2 ⟨mem_cells.2 ⟨j, hj⟩, he⟩
  have HNF : Hid ((∀ (i : Nat) (y : Cel), i < ts.length → ts[i]? = some (some y) → y.key ≠ key) → getT ts key = none) := Lib.hid fun h => by
    cases hg : getT ts key with
    | none => rfl
    | some y =>
      obtain ⟨h1, h2⟩ := (get_mem hI key y).1 hg
      obtain ⟨i, hi⟩ := mem_cells.1 h1
      exact absurd h2 (h i y (List.getElem?_eq_some_iff.1 hi).1 hi)
  obtain ⟨n, hn⟩ : ∃ n, n = ts.length := ⟨_, rfl⟩
  rw [← hn] at hn2 HNF
  obtain ⟨w1, hw1⟩ : ∃ w1, w1 = w.alloc (.cells #[.slice none 0 0, .int .i64 0, .slice none 0 0, .slice none 0 0, .slice none 0 0] 39) := ⟨_, rfl⟩
  have hb1 : Below w.heap.size w w1 := by rw [hw1]; exact (Below.refl _ w).alloc (Nat.le_refl _) _
  have o1 : Own 39 w1 w.heap.size [.slice none 0 0, .int .i64 0, .slice none 0 0, .slice none 0 0, .slice none 0 0] := by rw [hw1]; exact heap_alloc_new w _
  obtain ⟨b, eb⟩ : ∃ b, b = w.heap.size := ⟨_, rfl⟩
  rw [← eb] at o1
  have HR := Lib.hid (hR.below hb1)
  have HX := Lib.hid (hx.keep (Keeps.of_below hb1))
  have HEV := Lib.hid hev
  have HN := Lib.hid hn
  have Hb1 := Lib.hid hb1
  have Eb := Lib.hid eb
  have O1 := Lib.hid o1
  have EndN : Hid (∀ (q : Nat) (r0 r1 r2 r3 r4 : Value), Own 39 (put5 (w1.drewN q) b r0 r1 r2 r3 r4) b [r0, r1, r2, r3, r4] ∧ Below w.heap.size w (put5 (w1.drewN q) b r0 r1 r2 r3 r4)) := Lib.hid fun q r0 r1 r2 r3 r4 =>
    ⟨put5_own (o1.below (below_drewN (Below.refl _ w1) q) o1.lt), (below_drewN hb1 q).trans (put5_only.below (by rw [eb]; omega) (below_drewN hb1 q).size)⟩
  clear hR hx hev hn hI hb1 o1
  go_enter Try.func18, Try.ntmps18
  go_upto_block 0 with (fail)
  rw [← hw1, ← eb]
  clear hw1 eb
  go_wp2_with fail
  go_loopw [6] (fun i wr => ∃ (j q : Nat), i = .int .i64 j ∧ j ≤ n ∧ (∀ (i' : Nat) (y : Cel), i' < j → ts[i']? = some (some y) → y.key ≠ key) ∧ wr = w1.drewN q) (fun i _ => n - (intOf i).toNat)
  case atStart => exact ⟨0, 0, rfl, Nat.zero_le _, fun i' y h => by omega, rfl⟩
  case round =>
    obtain ⟨j, q, rfl, hj, hno, hwr⟩ := hrel
    rename World => wr
    have hRr : RT B wr T gC gI vs ts := by rw [hwr]; exact HR.out.below (below_drewN (Below.refl _ w1) q)
    have y0 := hRr.bx.cell (i := 0) rfl
    have y1 := hRr.bx.cell (i := 1) rfl
    rw [← HN.out] at y0 y1
    by_cases hjn : j < n
    · have d1 : decide ((j : Int) < (n : Int)) = true := decide_eq_true (by omega)
      have k0 : (0 : Int) ≤ (j : Int) := by omega
      have k1 : (j : Int) < (n : Int) := by omega
      obtain ⟨t, ht⟩ : ∃ t, ts[j]? = some t := ⟨_, List.getElem?_eq_getElem (by rw [← HN.out]; exact hjn)⟩
      obtain ⟨v, hv, hso, hc, hfl⟩ := hRr.slot ht
      have HWR := Lib.hid hwr
      cases t with
      | none =>
        obtain rfl : v = none := by
          cases v with
          | none => rfl
          | some _ => exact hso.elim
        have HNO : Hid (∀ (i' : Nat) (y : Cel), i' < j + 1 → ts[i']? = some (some y) → y.key ≠ key) := Lib.hid fun i' y hi hy => by
          rcases Nat.lt_or_ge i' j with h | h
          · exact hno i' y h hy
          · obtain rfl : i' = j := by omega
            rw [ht] at hy; cases hy
        clear hc hso hv ht hRr hno hwr
        go_wp2
        go_roundw
        case rel => exact ⟨j + 1, q, by go_num, by omega, HNO.out, HWR.out⟩
        case measure => simp [intOf]; omega
      | some x =>
        obtain ⟨vv, rfl⟩ : ∃ vv, v = some vv := by
          cases v with
          | none => exact hso.elim
          | some vv => exact ⟨vv, rfl⟩
        have hco : OwnC B wr vv x := hso
        obtain ⟨ka, kb, kc, kd, ke⟩ := vv
        obtain ⟨hcb, hco, hix⟩ := hco
        dsimp only at hcb hco
        subst hcb
        obtain ⟨Pk, ck, rfl, -, -, nk, -⟩ := hco.key.form
        have hcx : CR wr (.slice Pk x.key.length ck) kc kd ke x := ⟨hco.key.ri, hco.sum.ri, hco.mn.ri, hco.mx.ri⟩
        have c0 : wr.cell? ⟨gC, j * 5, none⟩ = some (.slice Pk x.key.length ck) := hc 0 (by omega) _ rfl
        have c1 : wr.cell? ⟨gC, j * 5 + 1, none⟩ = some (.int .i64 x.cnt) := hc 1 (by omega) _ rfl
        have c2 : wr.cell? ⟨gC, j * 5 + 2, none⟩ = some kc := hc 2 (by omega) _ rfl
        have c3 : wr.cell? ⟨gC, j * 5 + 3, none⟩ = some kd := hc 3 (by omega) _ rfl
        have c4 : wr.cell? ⟨gC, j * 5 + 4, none⟩ = some ke := hc 4 (by omega) _ rfl
        obtain ⟨x1, x2, x3, x4⟩ := HEV.out j x ht
        have hCP := fun (W : World) (hW : Keeps wr W) => rCopy_any _ kc kd ke x W (hcx.keep hW) (by omega) x2 x3 x4
        obtain ⟨m, hm⟩ : ∃ m, m = x.key.length := ⟨_, rfl⟩
        obtain ⟨xc, exc⟩ : ∃ z, z = x.cnt := ⟨_, rfl⟩
        rw [← hm] at c0 nk x1 hCP
        rw [← exc] at c1 hCP
        have hLS := Lib.hid (rLess Pk P m ck K c x.key key wr nk (HX.out.keep (by rw [hwr]; exact (Keeps.refl w1).drewN q)) (by omega) (by omega))
        have HCP := Lib.hid hCP
        have HIX := Lib.hid hix
        have HXC := Lib.hid exc
        have HF := Lib.hid (HFD.out j x ht)
        have HNO : Hid (x.key ≠ key → ∀ (i' : Nat) (y : Cel), i' < j + 1 → ts[i']? = some (some y) → y.key ≠ key) := Lib.hid fun hne i' y hi hy => by
          rcases Nat.lt_or_ge i' j with h | h
          · exact hno i' y h hy
          · obtain rfl : i' = j := by omega
            rw [ht] at hy; injection hy with hy; injection hy with hy; rw [← hy]; exact hne
        clear hc hso hv ht hRr hno hwr nk hco hm hix exc hcx hCP x2 x3 x4
        go_wp2_with fail
        refine hLS.out.mono ?_
        rintro e w' ⟨rfl, qn, hw'⟩
        have kp : Keeps wr w' := by rw [hw']; exact (Keeps.refl wr).drewN qn
        obtain ⟨q', hq'⟩ : ∃ q', w' = w1.drewN q' := ⟨_, by rw [hw', HWR.out]; exact World.drewN_drewN _ _ _⟩
        have HQ := Lib.hid hq'
        by_cases he : x.key = key
        · have e0 : (cmpL x.key key == 0) = true := by rw [he, cmpL_self]; rfl
          have HG := Lib.hid (HF.out he)
          have c0' := kp _ _ c0
          have c1' := kp _ _ c1
          have c2' := kp _ _ c2
          have c3' := kp _ _ c3
          have c4' := kp _ _ c4
          have y0' := kp _ _ y0
          have HC2 := Lib.hid (HCP.out w' kp)
          clear c0 c1 c2 c3 c4 y0 y1 hw' hq' kp he HCP hLS
          go_wp2_with fail
          refine HC2.out.mono ?_
          rintro e w2 ⟨k', s', n', m', rfl, hcc, hb2⟩
          have o2 : Own 39 w2 b [.slice none 0 0, .int .i64 0, .slice none 0 0, .slice none 0 0, .slice none 0 0] := by
            have h := O1.out.below (below_drewN (Below.refl _ w1) q') O1.out.lt
            rw [← HQ.out] at h
            exact h.below hb2 h.lt
          have hbz : Below w.heap.size w w2 := by
            have h := below_drewN Hb1.out q'
            rw [← HQ.out] at h
            exact h.trans (hb2.mono h.size)
          obtain ⟨Q1, e1, hq1, -⟩ := hcc.key.form
          obtain ⟨Q2, e2, hq2, -⟩ := hcc.sum.form
          obtain ⟨Q3, e3, hq3, -⟩ := hcc.mn.form
          obtain ⟨Q4, e4, hq4, -⟩ := hcc.mx.form
          have hcr : CR (put5 w2 b k' (.int .i64 xc) s' n' m') k' s' n' m' x := ⟨(hcc.key.only put5_only o2 (by decide)).ri, (hcc.sum.only put5_only o2 (by decide)).ri, (hcc.mn.only put5_only o2 (by decide)).ri, (hcc.mx.only put5_only o2 (by decide)).ri⟩
          have ho4 : Own 39 (put5 w2 b k' (.int .i64 xc) s' n' m') b [k', .int .i64 xc, s', n', m'] := put5_own o2
          have hb4 : Below w.heap.size w (put5 w2 b k' (.int .i64 xc) s' n' m') := hbz.trans (put5_only.below (by rw [Eb.out]; omega) hbz.size)
          obtain ⟨W4, hW4⟩ : ∃ W4, W4 = put5 w2 b k' (.int .i64 xc) s' n' m' := ⟨_, rfl⟩
          rw [← hW4] at ho4 hb4 hcr
          unfold put5 at hW4
          have HW4 := Lib.hid hW4
          have Hb4 := Lib.hid hb4
          have HCR := Lib.hid hcr
          have s0 := o2.cell (i := 0) rfl
          have s1 := o2.cell (i := 1) rfl
          have s2 := o2.cell (i := 2) rfl
          have s3 := o2.cell (i := 3) rfl
          have s4 := o2.cell (i := 4) rfl
          have sf := o2.frozen
          have r0 := ho4.cell (i := 0) rfl
          have r1 := ho4.cell (i := 1) rfl
          have r2 := ho4.cell (i := 2) rfl
          have r3 := ho4.cell (i := 3) rfl
          have r4 := ho4.cell (i := 4) rfl
          clear hW4 hb4 ho4 hcr hcc hb2 o2 hbz c0' c1' c2' c3' c4' y0'
          subst hq1 hq2 hq3 hq4
          go_wp2
          rw [← HW4.out]
          have hg : getT ts key = some x := HG.out
          have hi := HIX.out
          rw [HXC.out] at r1
          exact bodyPost_ret (v := .tuple #[.agg #[.slice Q1 _ e1, .int .i64 x.cnt, .slice Q2 _ e2, .slice Q3 _ e3, .slice Q4 _ e4], .bool true]) (by simp [results, Try.results18, go_sem, r0, r1, r2, r3, r4]) rfl ⟨⟨_, _, _, _, x, true, rfl, HCR.out, hi, .inl ⟨hg, rfl⟩⟩, Hb4.out⟩
        · have e0 : (cmpL x.key key == 0) = false := by rw [beq_eq_false_iff_ne]; exact fun h => he (cmpL_zero.1 h)
          have HNO' := Lib.hid (HNO.out he)
          clear he hw' hq' kp
          go_wp2
          go_roundw
          case rel => exact ⟨j + 1, q', by go_num, by omega, HNO'.out, HQ.out⟩
          case measure => simp [intOf]; omega
    · obtain rfl : j = n := by omega
      have d1 : decide ((j : Int) < (j : Int)) = false := by simp
      have HG : Hid (getT ts key = none) := Lib.hid (HNF.out hno)
      have HWR := Lib.hid hwr
      have ho := O1.out.below (below_drewN (Below.refl _ w1) q) O1.out.lt
      rw [← hwr] at ho
      have he := EndN.out q (.slice none 0 0) (.int .i64 0) (.slice none 0 0) (.slice none 0 0) (.slice none 0 0)
      rw [← hwr] at he
      obtain ⟨ho4, hb4⟩ := he
      obtain ⟨W4, hW4⟩ : ∃ W4, W4 = put5 wr b (.slice none 0 0) (.int .i64 0) (.slice none 0 0) (.slice none 0 0) (.slice none 0 0) := ⟨_, rfl⟩
      rw [← hW4] at ho4 hb4
      unfold put5 at hW4
      have HW4 := Lib.hid hW4
      have Hb4 := Lib.hid hb4
      have s0 := ho.cell (i := 0) rfl
      have s1 := ho.cell (i := 1) rfl
      have s2 := ho.cell (i := 2) rfl
      have s3 := ho.cell (i := 3) rfl
      have s4 := ho.cell (i := 4) rfl
      have sf := ho.frozen
      have r0 := ho4.cell (i := 0) rfl
      have r1 := ho4.cell (i := 1) rfl
      have r2 := ho4.cell (i := 2) rfl
      have r3 := ho4.cell (i := 3) rfl
      have r4 := ho4.cell (i := 4) rfl
      clear hno hRr hwr hW4 hb4 ho4 ho HWR
      go_wp2
      rw [← HW4.out]
      have hg := HG.out
      exact bodyPost_ret (v := .tuple #[.agg #[.slice none 0 0, .int .i64 0, .slice none 0 0, .slice none 0 0, .slice none 0 0], .bool false]) (by simp [results, Try.results18, go_sem, r0, r1, r2, r3, r4]) rfl ⟨⟨_, _, _, _, ⟨[], 0, [], [], []⟩, false, rfl, ⟨nil_ri _, nil_ri _, nil_ri _, nil_ri _⟩, by simp [inK], .inr ⟨hg, rfl, rfl⟩⟩, Hb4.out⟩
end Go.Proofs.Ytioddfodajinlaa
