/- The reference's table: Cells. -/
import Derived.IntWalk
import Derived.Test.YtioddfodajinlaaHshr1
import Derived.Test.YtioddfodajinlaaCelg
import Derived.Test.YtioddfodajinlaaJoinS
namespace Go.Proofs.Ytioddfodajinlaa
open Go.RowKit
attribute [local go_sem] Oper.semAt_some
set_option maxRecDepth 100000 in
set_option maxHeartbeats 4000000 in
theorem rtCells_any (B T gC gI : Nat) (vs : List (Option V5)) (ts : List (Option Cel)) (w : World) (hR : RT B w T gC gI vs ts) (hn2 : ts.length ≤ 10000) (hev : ∀ (i : Nat) (y : Cel), ts[i]? = some (some y) → y.key.length ≤ 1000 ∧ y.sum.length ≤ 1000000 ∧ y.mn.length ≤ 1000000 ∧ y.mx.length ≤ 1000000) :
    Calls Try.prog 22 #[.pointer (some ⟨T, 0, none⟩)] w fun e w' => ∃ v us, e = .returned v ∧ GRs w.heap.size w' v us (cellsT ts) ∧ Below w.heap.size w w' := by
  obtain ⟨n, hn⟩ : ∃ n, n = ts.length := ⟨_, rfl⟩
  rw [← hn] at hn2
  have HR := Lib.hid hR
  have HEV := Lib.hid hev
  have HN := Lib.hid hn
  clear hR hev hn
  go_enter Try.func22, Try.ntmps22
  go_wp2_with fail
  go_loopw [3, 4] (fun ov i wr => ∃ (j : Nat) (us : List V5), i = .int .i64 j ∧ j ≤ n ∧ GRs w.heap.size wr ov us (cellsT (ts.take j)) ∧ Below w.heap.size w wr) (fun _ i _ => n - (intOf i).toNat)
  case atStart => exact ⟨0, [], rfl, Nat.zero_le _, GRs.nil _ _, Below.refl _ _⟩
  case round =>
    obtain ⟨j, us, rfl, hj, hG, hb⟩ := hrel
    rename World => wr
    have hRr := HR.out.below hb
    have y0 := hRr.bx.cell (i := 0) rfl
    have y1 := hRr.bx.cell (i := 1) rfl
    rw [← HN.out] at y0 y1
    by_cases hjn : j < n
    · have d1 : decide ((j : Int) < (n : Int)) = true := decide_eq_true (by omega)
      have k0 : (0 : Int) ≤ (j : Int) := by omega
      have k1 : (j : Int) < (n : Int) := by omega
      obtain ⟨t, ht⟩ : ∃ t, ts[j]? = some t := ⟨_, List.getElem?_eq_getElem (by rw [← HN.out]; exact hjn)⟩
      obtain ⟨v, hv, hso, hc, hfl⟩ := hRr.slot ht
      have htk : cellsT (ts.take (j + 1)) = cellsT (ts.take j) ++ t.toList := by
        rw [List.take_add_one, ht, Option.toList_some]
        unfold cellsT
        rw [List.filterMap_append]
        cases t <;> rfl
      cases t with
      | none =>
        obtain rfl : v = none := by
          cases v with
          | none => rfl
          | some _ => exact hso.elim
        rw [Option.toList_none, List.append_nil] at htk
        rw [← htk] at hG
        have HG := Lib.hid hG
        have Hb := Lib.hid hb
        clear hc hso hv ht hRr htk hG hb
        go_wp2
        go_roundw
        case rel => exact ⟨j + 1, us, by go_num, by omega, HG.out, Hb.out⟩
        case measure => simp [intOf]; omega
      | some x =>
        obtain ⟨vv, rfl⟩ : ∃ vv, v = some vv := by
          cases v with
          | none => exact hso.elim
          | some vv => exact ⟨vv, rfl⟩
        have hco : OwnC B wr vv x := hso
        obtain ⟨ka, kb, kc, kd, ke⟩ := vv
        obtain ⟨hcb, hco, hix⟩ := hco
        dsimp only at hcb hco
        subst hcb
        have hcx : CR wr ka kc kd ke x := ⟨hco.key.ri, hco.sum.ri, hco.mn.ri, hco.mx.ri⟩
        have c0 : wr.cell? ⟨gC, j * 5, none⟩ = some ka := hc 0 (by omega) _ rfl
        have c1 : wr.cell? ⟨gC, j * 5 + 1, none⟩ = some (.int .i64 x.cnt) := hc 1 (by omega) _ rfl
        have c2 : wr.cell? ⟨gC, j * 5 + 2, none⟩ = some kc := hc 2 (by omega) _ rfl
        have c3 : wr.cell? ⟨gC, j * 5 + 3, none⟩ = some kd := hc 3 (by omega) _ rfl
        have c4 : wr.cell? ⟨gC, j * 5 + 4, none⟩ = some ke := hc 4 (by omega) _ rfl
        obtain ⟨x1, x2, x3, x4⟩ := HEV.out j x ht
        have hCP := rCopy_any ka kc kd ke x wr hcx (by omega) x2 x3 x4
        rw [Option.toList_some] at htk
        have hul : us.length ≤ j := by
          rw [hG.len]
          exact Nat.le_trans (cells_le _) (List.length_take_le _ _)
        have HG := Lib.hid hG
        have Hb := Lib.hid hb
        have HCP := Lib.hid hCP
        have HIX := Lib.hid hix
        have HTK := Lib.hid htk
        have HCX := Lib.hid hco
        obtain ⟨xc, exc⟩ : ∃ z, z = x.cnt := ⟨_, rfl⟩
        rw [← exc] at c1 HCP
        have HXC := Lib.hid exc
        clear hso hc hv ht hRr hcx hCP hix htk hG hb exc x1 x2 x3 x4
        obtain ⟨Pk, ck, hk, -⟩ := hco.key.form
        obtain ⟨Ps, cs, hs, -⟩ := hco.sum.form
        obtain ⟨Pn, cn, hnn, -⟩ := hco.mn.form
        obtain ⟨Pm, cm, hm, -⟩ := hco.mx.form
        generalize x.key.length = l1 at hk
        generalize x.sum.length = l2 at hs
        generalize x.mn.length = l3 at hnn
        generalize x.mx.length = l4 at hm
        clear hco HCX
        subst hk hs hnn hm
        go_wp2_with fail
        refine HCP.out.mono ?_
        rintro e w2 ⟨k', s', n', m', rfl, hcc, hb2⟩
        have how : OwnC w.heap.size w2 ⟨k', .int .i64 xc, s', n', m'⟩ x := OwnC.stay (show OwnC wr.heap.size w2 ⟨k', .int .i64 xc, s', n', m'⟩ x from ⟨by rw [← HXC.out], hcc, HIX.out⟩) fun o => o.mono Hb.out.size
        have hbz := Hb.out.trans (hb2.mono Hb.out.size)
        have hG2 := HG.out.below hb2
        obtain ⟨v', X3, hrun, hG3, hgr, -⟩ := append_one hG2 how (by omega) hbz.size
        dsimp only at hrun hgr
        have hb3 : Below w.heap.size w X3 := (hbz.alloc hbz.size _).grown hgr (hbz.alloc hbz.size _).size fun q hq => (hG2.1.lt q hq).1
        rw [← HTK.out] at hG3
        have Hrun := Lib.hid hrun
        have HG3 := Lib.hid hG3
        have HB3 := Lib.hid hb3
        obtain ⟨Q1, e1, hq1, -⟩ := hcc.key.form
        obtain ⟨Q2, e2, hq2, -⟩ := hcc.sum.form
        obtain ⟨Q3, e3, hq3, -⟩ := hcc.mn.form
        obtain ⟨Q4, e4, hq4, -⟩ := hcc.mx.form
        clear how hbz hG2 hrun hG3 hgr hb3 hcc hb2 c0 c1 c2 c3 c4 y0 y1 HCP
        subst hq1 hq2 hq3 hq4
        go_wp2_with (at_builtin; have _t := Hrun; refine wpList_append_eq rfl (.tmp 21) (.tmp 30) 29 rfl _ _ _ _ rfl rfl Hrun.out ?_; clear _t Hrun)
        go_roundw
        case rel => exact ⟨j + 1, _, by go_num, by omega, HG3.out, HB3.out⟩
        case measure => simp [intOf]; omega
    · obtain rfl : j = n := by omega
      have d1 : decide ((j : Int) < (j : Int)) = false := by simp
      rw [List.take_of_length_le (Nat.le_of_eq HN.out.symm)] at hG
      have HG := Lib.hid hG
      have Hb := Lib.hid hb
      clear hRr hG hb
      go_wp2
      go_ret
      exact ⟨_, us, rfl, HG.out, Hb.out⟩
end Go.Proofs.Ytioddfodajinlaa
