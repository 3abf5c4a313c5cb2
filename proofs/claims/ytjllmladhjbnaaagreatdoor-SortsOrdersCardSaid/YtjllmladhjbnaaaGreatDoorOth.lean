/- The laws' other plan, by numbers. -/
import Derived.Deep.CutRange
import Derived.Deep.DeepCutAuto
import Derived.Test.YtjllmladhjbnaaaGreatDoorSoA
import Derived.Test.YtjllmladhjbnaaaGreatDoorRset
import Derived.Test.YtjllmladhjbnaaaGreatDoorWith10
import Derived.Test.YtjllmladhjbnaaaGreatDoorRegion
namespace Go.Proofs.YtjllmladhjbnaaaGreatDoor
open Go.RowKit Go.Shelf
attribute [local go_sem] Oper.semAt_some
/-- An edge is appended; a row of numbers stays. -/
theorem oe_push {B B' : Nat} {w : World} {v u : Value} {es : List Ed} {xs : List Int} (e : Ed) (h : OE B w v es) (ho : OI B' w u xs) (hn : es.length + 1 ≤ 1000) (hB : B ≤ w.heap.size) :
    ∃ v' w', (Builtin.append_ #[30, 30] 30 #[v, .slice (some ⟨w.heap.size, 0, none⟩) 1 1]).run Tryz.prog (w.alloc (.cells #[.int .i64 e.s, .int .i64 e.p, .bool e.sc] 42)) = .ok v' w' ∧ OE B w' v' (es ++ [e]) ∧ OI B' w' u xs ∧ Below B w w' := by
  obtain ⟨i0, hi, hz0, hz1, hz2⟩ := info_parts infoE
  obtain ⟨v', w', hrun, ho', hgr, _, _⟩ := run_append_own_at (P := Tryz.prog) (w.alloc (.cells #[.int .i64 e.s, .int .i64 e.p, .bool e.sc] 42)) B 30 30 42 i0 _ 3 24 Tryz.underlying30 hi hz0 hz1 hz2 rfl (by omega) v es.length (eCs es) (h.alloc _)
    ⟨w.heap.size, 0, none⟩ 1 1 (eCs [e]) (by rw [eCs_len]; rfl) (fun j x hx => by
      rw [add0, show (w.alloc (.cells #[.int .i64 e.s, .int .i64 e.p, .bool e.sc] 42)).cell? ⟨w.heap.size, j, none⟩ = #[Value.int .i64 e.s, .int .i64 e.p, .bool e.sc][j]? from cell_of_row _ _ _ _ 42 (0, 0) (heap_alloc_new w _)]
      simpa [eCs, eC] using hx) (eCs_one [e]) (by simp [maxLen]; omega) (by omega) (by simp; omega)
  refine ⟨v', w', hrun, ?_, ⟨(ho.1.alloc _).kept hgr (own_apart ho.1 h (by decide)), ho.2⟩, ((Below.refl B w).alloc hB _).grown hgr (by simp; omega) (fun k e => (h.lt k e).1)⟩
  unfold OE
  rw [List.length_append, eCs_app]
  exact ho'
theorem ownE_kept {B g : Nat} {w w' : World} {o : Obj} {u : Value} {xs : List Int} {es : List Ed} (h : OI B w u xs) (ho : OwnE w g es) (hgr : (w.alloc o).grownBy w' u.ownBlock) : OwnE w' g es := by
  have hl := ho.lt
  refine ((hgr.block g (by simp; omega) fun e => ?_).trans (Below.heap_alloc _ _ _ hl)).trans ho
  rcases h.1.2 with ⟨e0, _⟩ | ⟨gg, cap, cur, e0, _, a2, _⟩
  · rw [e0] at e; cases e
  · rw [e0] at e
    have e' : g = gg := by simpa [Value.ownBlock] using e
    subst e'
    unfold OwnE Own at ho
    rw [ho] at a2
    injection a2 with a2
    injection a2 with _ h3 _
    exact absurd h3 (by decide)
/-- A number is appended; a row of edges stays. -/
theorem oi_push2 {B B' : Nat} {w : World} {v u : Value} {es : List Ed} {xs : List Int} (x : Int) (h : OI B w u xs) (ho : OE B' w v es) (hx : inK .i64 x) (hn : xs.length ≤ 1000) (hB : B ≤ w.heap.size) :
    ∃ u' w', (Builtin.append_ #[22, 22] 22 #[u, .slice (some ⟨w.heap.size, 0, none⟩) 1 1]).run Tryz.prog (w.alloc (.cells #[.int .i64 x] 3)) = .ok u' w' ∧ OI B w' u' (xs ++ [x]) ∧ OE B' w' v es ∧ Below B w w' ∧ ∀ g es', OwnE w g es' → OwnE w' g es' := by
  obtain ⟨i0, hi, hz0, hz1, hz2⟩ := info_parts infoI
  obtain ⟨u', w', hrun, ho', hgr, _, _⟩ := run_append_own_at (P := Tryz.prog) (w.alloc (.cells #[.int .i64 x] 3)) B 22 22 3 i0 _ 1 8 Tryz.underlying22 hi hz0 hz1 hz2 rfl (by omega) u xs.length (ints xs) (h.1.alloc _)
    ⟨w.heap.size, 0, none⟩ 1 1 [.int .i64 x] rfl (fun j y hy => by
      rw [add0, show (w.alloc (.cells #[.int .i64 x] 3)).cell? ⟨w.heap.size, j, none⟩ = #[.int .i64 x][j]? from cell_of_row _ _ _ _ 3 (0, 0) (heap_alloc_new w _)]
      simpa using hy)
    (by intro y hy; simp at hy; subst hy; rfl) (by simp [maxLen]; omega) (by omega) (by simp; omega)
  refine ⟨u', w', hrun, ⟨by rw [List.length_append]; simpa [ints] using ho', fun y hy => ?_⟩, (ho.alloc _).kept hgr (own_apart ho h.1 (by decide)), ((Below.refl B w).alloc hB _).grown hgr (by simp; omega) (fun k e => (h.1.lt k e).1), fun g es' hx' => ownE_kept h hx' hgr⟩
  rcases List.mem_append.1 hy with g | g
  · exact h.2 y g
  · rw [List.mem_singleton.1 g]; exact hx
/-- Which parents are scanned, in a row. -/
def scnL (es : List Ed) : List Int := (es.filter fun x => x.sc).map (·.p)
theorem scnL_snoc (es : List Ed) (e : Ed) : scnL (es ++ [e]) = if e.sc then scnL es ++ [e.p] else scnL es := by
  unfold scnL
  rw [List.filter_append, List.map_append]
  cases h : e.sc <;> simp [h]
theorem scnL_any (es : List Ed) (p : Int) : (scnL es).any (fun x => x == p) = es.any fun x => x.sc && x.p == p := by
  unfold scnL
  rw [List.any_map, List.any_filter]
  rfl
theorem scnL_len (es : List Ed) : (scnL es).length ≤ es.length := by
  unfold scnL
  rw [List.length_map]
  exact List.length_filter_le _ _
theorem anyI_take' {l : List Int} {k : Nat} {x p : Int} (h : l[k]? = some x) : (l.take (k + 1)).any (fun x => x == p) = ((l.take k).any (fun x => x == p) || x == p) := by
  rw [List.take_add_one, h, List.any_append]; simp
theorem tdiv4_bd {k : Int} (h : inK .i64 k) : -2305843009213693953 ≤ k.tdiv 4 ∧ k.tdiv 4 ≤ 2305843009213693953 := by
  obtain ⟨h1, h2⟩ := h
  rw [Int.tdiv_eq_ediv, show Int.sign 4 = 1 from rfl]
  split <;> omega
set_option maxRecDepth 100000 in
set_option maxHeartbeats 8000000 in
theorem other_any (d : Nat) (D : Option Addr) (m dd : Nat) (ns : List Int) (w : World) (hD : Nums .i64 w D m ns) (h1 : 1 ≤ d) (h4 : d ≤ 4) :
    Calls Tryz.prog 17 #[.int .i64 d, .slice D m dd] w fun e w' => ∃ v, e = .returned v ∧ OE w.heap.size w' v (othM d ns) ∧ Below w.heap.size w w' := by
  have HS := Lib.hid (rSets_any d w h1 h4)
  have hsl := setsL_len d h1 h4
  obtain ⟨N, hN⟩ : ∃ N, N = 2 ^ d := ⟨_, rfl⟩
  have n16 := pow_16 d h4
  rw [← hN] at hsl n16
  have HD := Lib.hid hD
  have HNN := Lib.hid hN
  clear hD hN
  go_enter Tryz.func17, Tryz.ntmps17
  go_wp2_with fail
  refine HS.out.mono ?_
  rintro e w2 ⟨vs, rfl, hos, hb2⟩
  obtain ⟨PS, cS, rfl, -, -, hns, -⟩ := hos.form
  obtain ⟨PS', cS', eS, -, -, h3⟩ := own_form hos.1
  injection eS with eS e8 e9
  obtain ⟨gs, egs, -, -⟩ := h3 (by omega)
  rw [← eS] at egs
  subst egs
  clear eS e8 e9 h3
  rw [hsl] at hns ⊢
  have HNS := Lib.hid hns
  have HB2 := Lib.hid hb2
  clear hns hb2 hos
  go_wp2_with fail
  go_loopw [5, 7, 8] (fun out sc i wr => ∃ k : Nat, i = .int .i64 k ∧ k ≤ N ∧ OE w2.heap.size wr out (othTo d ns k) ∧ OI w2.heap.size wr sc (scnL (othTo d ns k)) ∧ Below w2.heap.size w2 wr) (fun _ _ i _ => N - (intOf i).toNat)
  case atStart => exact ⟨0, rfl, Nat.zero_le _, OE.nil _ _, OI.nil _ _, Below.refl _ _⟩
  case round =>
    obtain ⟨i, rfl, hi, hoe, hoi, hb⟩ := hrel
    rename World => wr
    have HOE := Lib.hid hoe
    have HOI := Lib.hid hoi
    have HB := Lib.hid hb
    have hz := hb.size
    clear hoe hoi hb
    by_cases hiN : i < N
    · have kw := Keeps.of_below HB.out
      obtain ⟨ad, s, e1, hs, -, hcs⟩ := (HNS.out.keep kw).at_ hiN
      injection e1 with e1
      subst e1
      rw [add0] at hcs
      have hsm := List.mem_of_getElem? hs
      obtain ⟨s0, s1⟩ := sets_bd d h1 h4 s hsm
      have hf15 := fullB_15 d h4
      obtain ⟨sN, hsN⟩ : ∃ sN : Nat, s = (sN : Int) := ⟨s.toNat, by omega⟩
      have hsl2 : sN < 2 ^ d := by
        have : fullB d = ((2 ^ d : Nat) : Int) - 1 := by unfold fullB; push_cast; rfl
        omega
      have HPA := Lib.hid (rPar_any sN d wr hsl2 h4)
      rw [← hsN] at HPA
      have hth : othTo d ns (i + 1) = othTo d ns i ++ [othE d ns (othTo d ns i) i s] := by
        rw [othTo, List.getD_eq_getElem?_getD, hs]; rfl
      have HTH := Lib.hid hth
      have htl := othTo_len d ns i
      have hsn := scnL_snoc (othTo d ns i) (othE d ns (othTo d ns i) i s)
      rw [← hth] at hsn
      have HSN := Lib.hid hsn
      have i0 : (0 : Int) ≤ (i : Int) := by omega
      have i1 : (i : Int) < (N : Int) := by omega
      have hscl := scnL_len (othTo d ns i)
      clear hsN hsl2 hth hsn hs hsm kw
      go_wp2_with fail
      refine HPA.out.mono ?_
      rintro e w3 ⟨vp, rfl, hop, hb3⟩
      have hb13 := HB.out.trans (hb3.mono hz)
      have HB3 := Lib.hid hb13
      have hz3 := hb3.size
      have HOE3 := Lib.hid (HOE.out.below hb3)
      have HOI3 := Lib.hid (HOI.out.below hb3)
      have hcs3 := (Keeps.of_below hb3) _ _ hcs
      obtain ⟨PP, cP, rfl, -, -, hnp, -⟩ := hop.form
      by_cases hpe : parL s d = []
      · have hl0 : (parL s d).length = 0 := by rw [hpe]; rfl
        rw [hl0] at hnp ⊢
        have heq : othE d ns (othTo d ns i) i s = ⟨s, -1, false⟩ := by unfold othE; rw [if_pos hpe]
        obtain ⟨v', w4, hrun, hoe4, hoi4, hb4⟩ := oe_push ⟨s, -1, false⟩ HOE3.out HOI3.out (by omega) (Nat.le_trans hz hz3)
        have Hrun := Lib.hid hrun
        rw [← heq, ← HTH.out] at hoe4
        have HOE4 := Lib.hid hoe4
        have hsn2 := HSN.out
        rw [heq, if_neg (by simp)] at hsn2
        rw [← hsn2] at hoi4
        have HOI4 := Lib.hid hoi4
        have HB4 := Lib.hid (HB3.out.trans hb4)
        clear hb3 hb13 hop hnp hrun hoe4 hoi4 hb4 heq hsn2 hpe hcs
        go_wp2_with (at_builtin; have _t := Hrun; refine wpList_append_eq rfl (.tmp 30) (.tmp 36) 30 rfl _ _ _ _ rfl rfl Hrun.out ?_; clear _t Hrun)
        go_roundw
        case rel => exact ⟨i + 1, by go_num, by omega, HOE4.out, HOI4.out, HB4.out⟩
        case measure => simp [intOf]; omega
      · have hlp : 0 < (parL s d).length := List.length_pos_iff.2 hpe
        have hlp4 : (parL s d).length ≤ 4 := by unfold parL; rw [List.length_map]; exact dimsL_le _
        obtain ⟨np, hnpe⟩ : ∃ np, np = (parL s d).length := ⟨_, rfl⟩
        rw [← hnpe] at hlp hlp4 hnp ⊢
        obtain ⟨kv, hkv⟩ : ∃ kv, kv = ns[i]?.getD (i : Int) := ⟨_, rfl⟩
        have hkk64 : inK .i64 kv := by
          rw [hkv]
          cases hx : ns[i]? with
          | none => constructor <;> simp <;> omega
          | some x => exact HD.out.2.1 x (List.mem_of_getElem? hx)
        have HKV := Lib.hid hkv
        have HHPE := Lib.hid hpe
        have HNPE := Lib.hid hnpe
        have HNP := Lib.hid hnp
        have HOP := Lib.hid hop
        have npz : ((np : Int) == 0) = false := by simp; omega
        have hdl := HD.out.1
        obtain ⟨PP', cP', eP, -, -, h3⟩ := own_form hop.1
        injection eP with eP e8 e9
        obtain ⟨gp, egp, -, -⟩ := h3 (by rw [← hnpe]; exact hlp)
        rw [← eP] at egp
        subst egp
        clear hb3 hb13 hop hnp hcs hpe hnpe hkv eP e8 e9 h3
        go_upto_if 42 with (fail)
        go_cut [10] from 42 to 46 (fun s10 wx => s10 = .int .i64 kv ∧ wx = w3)
        case first =>
          by_cases him : i < m
          · obtain ⟨adD, x, rfl, hx, -, hcx⟩ := HD.out.at_ him
            have hcx3 : w3.cell? (adD.add i) = some (.int .i64 x) := (Keeps.of_below HB3.out) _ _ ((Keeps.of_below HB2.out) _ _ hcx)
            have hkx : kv = x := by rw [HKV.out, hx]; rfl
            have HKX := Lib.hid hkx
            have imz : (i : Int) < (m : Int) := by omega
            clear hx hcx hkx
            go_wp2_with fail
            go_meet
            exact ⟨by rw [HKX.out], rfl⟩
          · have hkx : kv = (i : Int) := by rw [HKV.out, List.getElem?_eq_none (by omega)]; rfl
            have HKX := Lib.hid hkx
            have imz : ¬ (i : Int) < (m : Int) := by omega
            clear hkx
            go_wp2_with fail
            go_meet
            exact ⟨by rw [HKX.out], rfl⟩
        case rest =>
          obtain ⟨rfl, hwx⟩ := hcut
          rw [hwx]
          clear hwx
          obtain ⟨kk, hkk⟩ : ∃ kk : Nat, kv % (np : Int) = (kk : Int) := ⟨(kv % (np : Int)).toNat, by have := Int.emod_nonneg kv (show (np : Int) ≠ 0 by omega); omega⟩
          have hkl : kk < np := by have := Int.emod_lt_of_pos kv (show (0 : Int) < (np : Int) by omega); omega
          obtain ⟨adp, p, e1, hp, hpk, hcp⟩ := HNP.out.at_ hkl
          injection e1 with e1
          subst e1
          rw [add0] at hcp
          have hop2 : othE d ns (othTo d ns i) i s = ⟨s, p, decide (kv.tdiv 4 % 2 = 0) && !((othTo d ns i).any fun x => x.sc && x.p == p)⟩ := by
            unfold othE
            rw [if_neg HHPE.out, ← HKV.out, ← HNPE.out, hkk, Int.toNat_natCast, List.getD_eq_getElem?_getD, hp]
            rfl
          rw [← scnL_any] at hop2
          have HOP2 := Lib.hid hop2
          have hmod : IntKind.i64.wrap (kv.tdiv 4) = kv.tdiv 4 := IntWalk.i64_in _ (by have := tdiv4_bd hkk64; omega)
          have HWK := Lib.hid (fun W => lwithin10 kv (np : Int) W hkk64 (by omega) (by omega))
          rw [hkk] at HWK
          have HWQ := Lib.hid (fun W => lwithin10 (kv.tdiv 4) 2 W (by have := tdiv4_bd hkk64; constructor <;> omega) (by omega) (by omega))
          obtain ⟨tq, htq⟩ : ∃ tq, tq = kv.tdiv 4 % 2 := ⟨_, rfl⟩
          rw [← htq] at HWQ
          obtain ⟨sc0, hsc0⟩ : ∃ sc0, sc0 = decide (tq = 0) := ⟨_, rfl⟩
          have hbq : (tq == 0) = sc0 := by rw [hsc0]; by_cases h : tq = 0 <;> simp [h]
          rw [← htq, ← hsc0] at hop2
          have HOP3 := Lib.hid hop2
          have kkz : (kk : Int) < (np : Int) := by omega
          have kk0 : (0 : Int) ≤ (kk : Int) := by omega
          have z0 := hcs3
          have z1 := hcp
          have hal : Keeps w3.drew (w3.drew.alloc (.cells #[.int .i64 0, .int .i64 0, .bool false] 42)) := Keeps.of_below (below_box _ _)
          have hfn : Keeps w3 (w3.alloc (.cells #[.int .i64 s, .int .i64 p, .bool sc0] 42)).drew := Keeps.of_below (below_box w3 _).drew
          clear hkk hp hop2 htq hsc0 HOP2
          go_upto_region 13 with (fail)
          go_cut [11] from 47 to 62 (fun s11 wx => s11 = .pointer (some ⟨w3.heap.size, 0, none⟩) ∧ wx = (w3.alloc (.cells #[.int .i64 s, .int .i64 p, .bool sc0] 42)).drew)
          case first =>
            refine wp_region_held_drew (S := fun W => W.cell? ⟨gs, i, none⟩ = some (.int .i64 s) ∧ W.cell? ⟨gp, kk, none⟩ = some (.int .i64 p)) (by kernel_rfl) ⟨z0, z1⟩ (fun hHeld => ?_)
            refine wpAnyH_take (i := 0) (v := ?vt00) rfl (by kernel_rfl) (by kernel_rfl) (by kernel_rfl) (fun _ _ _ h => h) (Or.inl ⟨by rfl, ?yt00⟩) hHeld ?rt00
            case yt00 => (intro W hW; obtain ⟨hW0, hW1⟩ := hW; go_simp; first | done | with_reducible rfl)
            try simp only [List.getElem_toArray, List.getElem_cons_zero, Act.put, List.setIfInBounds_toArray, List.set_cons_zero, List.set_cons_succ]
            refine wpAnyH_take (i := 1) (v := ?vt01) rfl (by kernel_rfl) (by kernel_rfl) (by kernel_rfl) (fun _ _ _ h => h) (Or.inl ⟨by rfl, ?yt01⟩) hHeld ?rt01
            case yt01 => (intro W hW; obtain ⟨hW0, hW1⟩ := hW; go_simp; first | done | with_reducible rfl)
            try simp only [List.getElem_toArray, List.getElem_cons_succ, List.getElem_cons_zero, Act.put, List.setIfInBounds_toArray, List.set_cons_zero, List.set_cons_succ]
            refine wpAnyH_take (i := 2) (v := ?vt02) rfl (by kernel_rfl) (by kernel_rfl) (by kernel_rfl) (fun _ _ _ h => h) (Or.inl ⟨by rfl, ?yt02⟩) hHeld ?rt02
            case yt02 => (intro W hW; obtain ⟨hW0, hW1⟩ := hW; go_simp; first | done | with_reducible rfl)
            try simp only [List.getElem_toArray, List.getElem_cons_succ, List.getElem_cons_zero, Act.put, List.setIfInBounds_toArray, List.set_cons_zero, List.set_cons_succ]
            refine wpAnyH_take (i := 3) (v := ?vt03) rfl (by kernel_rfl) (by kernel_rfl) (by kernel_rfl) (fun _ _ _ h => h) (Or.inl ⟨by rfl, ?yt03⟩) hHeld ?rt03
            case yt03 => (intro W hW; obtain ⟨hW0, hW1⟩ := hW; go_simp; first | done | with_reducible rfl)
            try simp only [List.getElem_toArray, List.getElem_cons_succ, List.getElem_cons_zero, Act.put, List.setIfInBounds_toArray, List.set_cons_zero, List.set_cons_succ]
            refine wpAnyH_take (i := 4) (v := ?vt04) rfl (by kernel_rfl) (by kernel_rfl) (by kernel_rfl) (fun _ _ _ h => h) (Or.inl ⟨by rfl, ?yt04⟩) hHeld ?rt04
            case yt04 => (intro W hW; obtain ⟨hW0, hW1⟩ := hW; go_simp; first | done | with_reducible rfl)
            try simp only [List.getElem_toArray, List.getElem_cons_succ, List.getElem_cons_zero, Act.put, List.setIfInBounds_toArray, List.set_cons_zero, List.set_cons_succ]
            refine wpAnyH_take (i := 5) (v := ?vt05) rfl (by kernel_rfl) (by kernel_rfl) (by kernel_rfl) (fun _ _ _ h => h) (Or.inl ⟨by rfl, ?yt05⟩) hHeld ?rt05
            case yt05 => (intro W hW; obtain ⟨hW0, hW1⟩ := hW; go_simp; first | done | with_reducible rfl)
            try simp only [List.getElem_toArray, List.getElem_cons_succ, List.getElem_cons_zero, Act.put, List.setIfInBounds_toArray, List.set_cons_zero, List.set_cons_succ]
            refine wpAnyH_take (i := 6) (v := ?vt06) rfl (by kernel_rfl) (by kernel_rfl) (by kernel_rfl) (fun _ _ _ h => h) (Or.inl ⟨by rfl, ?yt06⟩) hHeld ?rt06
            case yt06 => (intro W hW; obtain ⟨hW0, hW1⟩ := hW; go_simp; first | done | with_reducible rfl)
            try simp only [List.getElem_toArray, List.getElem_cons_succ, List.getElem_cons_zero, Act.put, List.setIfInBounds_toArray, List.set_cons_zero, List.set_cons_succ]
            refine wpAnyH_take (i := 7) (v := ?vt07) rfl (by kernel_rfl) (by kernel_rfl) (by kernel_rfl) (fun _ _ _ h => h) (Or.inl ⟨by rfl, ?yt07⟩) hHeld ?rt07
            case yt07 => (intro W hW; obtain ⟨hW0, hW1⟩ := hW; go_simp; first | done | with_reducible rfl)
            try simp only [List.getElem_toArray, List.getElem_cons_succ, List.getElem_cons_zero, Act.put, List.setIfInBounds_toArray, List.set_cons_zero, List.set_cons_succ]
            refine wpAnyH_take (i := 11) (v := ?vt011) rfl (by kernel_rfl) (by kernel_rfl) (by kernel_rfl) (fun _ _ _ h => h) (Or.inl ⟨by rfl, ?yt011⟩) hHeld ?rt011
            case yt011 => (intro W hW; obtain ⟨hW0, hW1⟩ := hW; go_simp; first | done | with_reducible rfl)
            try simp only [List.getElem_toArray, List.getElem_cons_succ, List.getElem_cons_zero, Act.put, List.setIfInBounds_toArray, List.set_cons_zero, List.set_cons_succ]
            refine wpAnyH_take (i := 12) (v := ?vt012) rfl (by kernel_rfl) (by kernel_rfl) (by kernel_rfl) (fun _ _ _ h => h) (Or.inl ⟨by rfl, ?yt012⟩) hHeld ?rt012
            case yt012 => (intro W hW; obtain ⟨hW0, hW1⟩ := hW; go_simp; first | done | with_reducible rfl)
            try simp only [List.getElem_toArray, List.getElem_cons_succ, List.getElem_cons_zero, Act.put, List.setIfInBounds_toArray, List.set_cons_zero, List.set_cons_succ]
            refine wpAnyH_ready (rs := [8, 16]) (by kernel_rfl) (by simp) ?_
            refine AllReadyH.cons rfl (fun K hK => ?_) (AllReadyH.cons rfl (fun K hK => ?_) (AllReadyH.nil))
            ·
              go_simp
              refine (HWK.out _).mono ?_
              rintro e w' ⟨rfl, rfl⟩
              refine hK.out _ _ (⟨hHeld.1, hHeld.2⟩) (fun hHeld => ?_)
              clear hK K
              try simp only [List.getElem_toArray, List.getElem_cons_succ, List.getElem_cons_zero, Act.put, List.setIfInBounds_toArray, List.set_cons_zero, List.set_cons_succ]
              refine wpAnyH_take (i := 9) (v := ?vq89) rfl (by kernel_rfl) (by kernel_rfl) (by kernel_rfl) (fun _ _ _ h => h) (Or.inl ⟨by rfl, ?yq89⟩) hHeld ?rq89
              case yq89 => (intro W hW; obtain ⟨hW0, hW1⟩ := hW; go_simp; first | done | with_reducible rfl)
              try simp only [List.getElem_toArray, List.getElem_cons_succ, List.getElem_cons_zero, Act.put, List.setIfInBounds_toArray, List.set_cons_zero, List.set_cons_succ]
              refine wpAnyH_take (i := 10) (v := ?vq810) rfl (by kernel_rfl) (by kernel_rfl) (by kernel_rfl) (fun _ _ _ h => h) (Or.inl ⟨by rfl, ?yq810⟩) hHeld ?rq810
              case yq810 => (intro W hW; obtain ⟨hW0, hW1⟩ := hW; go_simp; first | done | with_reducible rfl)
              try simp only [List.getElem_toArray, List.getElem_cons_succ, List.getElem_cons_zero, Act.put, List.setIfInBounds_toArray, List.set_cons_zero, List.set_cons_succ]
              refine wpAnyH_ready (rs := [13, 16]) (by kernel_rfl) (by simp) ?_
              refine AllReadyH.cons rfl (fun K hK => ?_) (AllReadyH.cons rfl (fun K hK => ?_) (AllReadyH.nil))
              ·
                go_simp
                refine (HWQ.out _).mono ?_
                rintro e w' ⟨rfl, rfl⟩
                refine hK.out _ _ (⟨hHeld.1, hHeld.2⟩) (fun hHeld => ?_)
                clear hK K
                try simp only [List.getElem_toArray, List.getElem_cons_succ, List.getElem_cons_zero, Act.put, List.setIfInBounds_toArray, List.set_cons_zero, List.set_cons_succ]
                refine wpAnyH_take (i := 14) (v := ?vq81314) rfl (by kernel_rfl) (by kernel_rfl) (by kernel_rfl) (fun _ _ _ h => h) (Or.inl ⟨by rfl, ?yq81314⟩) hHeld ?rq81314
                case yq81314 => (intro W hW; obtain ⟨hW0, hW1⟩ := hW; go_simp; first | done | with_reducible rfl)
                try simp only [List.getElem_toArray, List.getElem_cons_succ, List.getElem_cons_zero, Act.put, List.setIfInBounds_toArray, List.set_cons_zero, List.set_cons_succ]
                refine wpAnyH_take (i := 15) (v := ?vq81315) rfl (by kernel_rfl) (by kernel_rfl) (by kernel_rfl) (fun _ _ _ h => h) (Or.inl ⟨by rfl, ?yq81315⟩) hHeld ?rq81315
                case yq81315 => (intro W hW; obtain ⟨hW0, hW1⟩ := hW; go_simp; first | done | with_reducible rfl)
                try simp only [List.getElem_toArray, List.getElem_cons_succ, List.getElem_cons_zero, Act.put, List.setIfInBounds_toArray, List.set_cons_zero, List.set_cons_succ]
                refine wpAnyH_ready (rs := [16]) (by kernel_rfl) (by simp) ?_
                refine AllReadyH.cons rfl (fun K hK => ?_) (AllReadyH.nil)
                go_simp
                refine hK.out _ _ (⟨hal _ _ hHeld.1, hal _ _ hHeld.2⟩) (fun hHeld => ?_)
                clear hK K
                try simp only [List.getElem_toArray, List.getElem_cons_succ, List.getElem_cons_zero, Act.put, List.setIfInBounds_toArray, List.set_cons_zero, List.set_cons_succ]
                refine wpAnyH_ready (rs := [17]) (by kernel_rfl) (by simp) ?_
                refine AllReadyH.cons rfl (fun K hK => ?_) (AllReadyH.nil)
                go_simp
                refine hK.out _ _ (⟨hfn _ _ z0, hfn _ _ z1⟩) (fun hHeld => ?_)
                clear hK K
                try simp only [List.getElem_toArray, List.getElem_cons_succ, List.getElem_cons_zero, Act.put, List.setIfInBounds_toArray, List.set_cons_zero, List.set_cons_succ]
                refine wpAnyH_done (by kernel_rfl) ?_ _
                go_wp2_with fail
                go_meet
                exact ⟨rfl, rfl⟩
              ·
                go_simp
                refine hK.out _ _ (⟨hal _ _ hHeld.1, hal _ _ hHeld.2⟩) (fun hHeld => ?_)
                clear hK K
                try simp only [List.getElem_toArray, List.getElem_cons_succ, List.getElem_cons_zero, Act.put, List.setIfInBounds_toArray, List.set_cons_zero, List.set_cons_succ]
                refine wpAnyH_ready (rs := [13]) (by kernel_rfl) (by simp) ?_
                refine AllReadyH.cons rfl (fun K hK => ?_) (AllReadyH.nil)
                go_simp
                refine (HWQ.out _).mono ?_
                rintro e w' ⟨rfl, rfl⟩
                refine hK.out _ _ (⟨hHeld.1, hHeld.2⟩) (fun hHeld => ?_)
                clear hK K
                try simp only [List.getElem_toArray, List.getElem_cons_succ, List.getElem_cons_zero, Act.put, List.setIfInBounds_toArray, List.set_cons_zero, List.set_cons_succ]
                refine wpAnyH_take (i := 14) (v := ?vq8161314) rfl (by kernel_rfl) (by kernel_rfl) (by kernel_rfl) (fun _ _ _ h => h) (Or.inl ⟨by rfl, ?yq8161314⟩) hHeld ?rq8161314
                case yq8161314 => (intro W hW; obtain ⟨hW0, hW1⟩ := hW; go_simp; first | done | with_reducible rfl)
                try simp only [List.getElem_toArray, List.getElem_cons_succ, List.getElem_cons_zero, Act.put, List.setIfInBounds_toArray, List.set_cons_zero, List.set_cons_succ]
                refine wpAnyH_take (i := 15) (v := ?vq8161315) rfl (by kernel_rfl) (by kernel_rfl) (by kernel_rfl) (fun _ _ _ h => h) (Or.inl ⟨by rfl, ?yq8161315⟩) hHeld ?rq8161315
                case yq8161315 => (intro W hW; obtain ⟨hW0, hW1⟩ := hW; go_simp; first | done | with_reducible rfl)
                try simp only [List.getElem_toArray, List.getElem_cons_succ, List.getElem_cons_zero, Act.put, List.setIfInBounds_toArray, List.set_cons_zero, List.set_cons_succ]
                refine wpAnyH_ready (rs := [17]) (by kernel_rfl) (by simp) ?_
                refine AllReadyH.cons rfl (fun K hK => ?_) (AllReadyH.nil)
                go_simp
                refine hK.out _ _ (⟨hfn _ _ z0, hfn _ _ z1⟩) (fun hHeld => ?_)
                clear hK K
                try simp only [List.getElem_toArray, List.getElem_cons_succ, List.getElem_cons_zero, Act.put, List.setIfInBounds_toArray, List.set_cons_zero, List.set_cons_succ]
                refine wpAnyH_done (by kernel_rfl) ?_ _
                go_wp2_with fail
                go_meet
                exact ⟨rfl, rfl⟩
            ·
              go_simp
              refine hK.out _ _ (⟨hal _ _ hHeld.1, hal _ _ hHeld.2⟩) (fun hHeld => ?_)
              clear hK K
              try simp only [List.getElem_toArray, List.getElem_cons_succ, List.getElem_cons_zero, Act.put, List.setIfInBounds_toArray, List.set_cons_zero, List.set_cons_succ]
              refine wpAnyH_ready (rs := [8]) (by kernel_rfl) (by simp) ?_
              refine AllReadyH.cons rfl (fun K hK => ?_) (AllReadyH.nil)
              go_simp
              refine (HWK.out _).mono ?_
              rintro e w' ⟨rfl, rfl⟩
              refine hK.out _ _ (⟨hHeld.1, hHeld.2⟩) (fun hHeld => ?_)
              clear hK K
              try simp only [List.getElem_toArray, List.getElem_cons_succ, List.getElem_cons_zero, Act.put, List.setIfInBounds_toArray, List.set_cons_zero, List.set_cons_succ]
              refine wpAnyH_take (i := 9) (v := ?vq1689) rfl (by kernel_rfl) (by kernel_rfl) (by kernel_rfl) (fun _ _ _ h => h) (Or.inl ⟨by rfl, ?yq1689⟩) hHeld ?rq1689
              case yq1689 => (intro W hW; obtain ⟨hW0, hW1⟩ := hW; go_simp; first | done | with_reducible rfl)
              try simp only [List.getElem_toArray, List.getElem_cons_succ, List.getElem_cons_zero, Act.put, List.setIfInBounds_toArray, List.set_cons_zero, List.set_cons_succ]
              refine wpAnyH_take (i := 10) (v := ?vq16810) rfl (by kernel_rfl) (by kernel_rfl) (by kernel_rfl) (fun _ _ _ h => h) (Or.inl ⟨by rfl, ?yq16810⟩) hHeld ?rq16810
              case yq16810 => (intro W hW; obtain ⟨hW0, hW1⟩ := hW; go_simp; first | done | with_reducible rfl)
              try simp only [List.getElem_toArray, List.getElem_cons_succ, List.getElem_cons_zero, Act.put, List.setIfInBounds_toArray, List.set_cons_zero, List.set_cons_succ]
              refine wpAnyH_ready (rs := [13]) (by kernel_rfl) (by simp) ?_
              refine AllReadyH.cons rfl (fun K hK => ?_) (AllReadyH.nil)
              go_simp
              refine (HWQ.out _).mono ?_
              rintro e w' ⟨rfl, rfl⟩
              refine hK.out _ _ (⟨hHeld.1, hHeld.2⟩) (fun hHeld => ?_)
              clear hK K
              try simp only [List.getElem_toArray, List.getElem_cons_succ, List.getElem_cons_zero, Act.put, List.setIfInBounds_toArray, List.set_cons_zero, List.set_cons_succ]
              refine wpAnyH_take (i := 14) (v := ?vq1681314) rfl (by kernel_rfl) (by kernel_rfl) (by kernel_rfl) (fun _ _ _ h => h) (Or.inl ⟨by rfl, ?yq1681314⟩) hHeld ?rq1681314
              case yq1681314 => (intro W hW; obtain ⟨hW0, hW1⟩ := hW; go_simp; first | done | with_reducible rfl)
              try simp only [List.getElem_toArray, List.getElem_cons_succ, List.getElem_cons_zero, Act.put, List.setIfInBounds_toArray, List.set_cons_zero, List.set_cons_succ]
              refine wpAnyH_take (i := 15) (v := ?vq1681315) rfl (by kernel_rfl) (by kernel_rfl) (by kernel_rfl) (fun _ _ _ h => h) (Or.inl ⟨by rfl, ?yq1681315⟩) hHeld ?rq1681315
              case yq1681315 => (intro W hW; obtain ⟨hW0, hW1⟩ := hW; go_simp; first | done | with_reducible rfl)
              try simp only [List.getElem_toArray, List.getElem_cons_succ, List.getElem_cons_zero, Act.put, List.setIfInBounds_toArray, List.set_cons_zero, List.set_cons_succ]
              refine wpAnyH_ready (rs := [17]) (by kernel_rfl) (by simp) ?_
              refine AllReadyH.cons rfl (fun K hK => ?_) (AllReadyH.nil)
              go_simp
              refine hK.out _ _ (⟨hfn _ _ z0, hfn _ _ z1⟩) (fun hHeld => ?_)
              clear hK K
              try simp only [List.getElem_toArray, List.getElem_cons_succ, List.getElem_cons_zero, Act.put, List.setIfInBounds_toArray, List.set_cons_zero, List.set_cons_succ]
              refine wpAnyH_done (by kernel_rfl) ?_ _
              go_wp2_with fail
              go_meet
              exact ⟨rfl, rfl⟩
          case rest =>
            obtain ⟨rfl, hwx⟩ := hcut
            rw [hwx]
            clear hwx hal hfn
            obtain ⟨wb, hwb⟩ : ∃ wb, wb = (w3.alloc (.cells #[.int .i64 s, .int .i64 p, .bool sc0] 42)).drew := ⟨_, rfl⟩
            have hbb : Below w3.heap.size w3 wb := by rw [hwb]; exact (below_box w3 _).drew
            obtain ⟨gb, hgb⟩ : ∃ gb, gb = w3.heap.size := ⟨_, rfl⟩
            have how : OwnE wb gb [⟨s, p, sc0⟩] := by rw [hwb, hgb]; exact heap_alloc_new w3 _
            rw [← hwb, ← hgb]
            have HOW := Lib.hid how
            have HBB := Lib.hid hbb
            have HGB := Lib.hid hgb
            obtain ⟨PQ, cQ, eQ, -, -, hnq, -⟩ := HOI3.out.form
            subst eQ
            have HNQ := Lib.hid hnq
            obtain ⟨L, hL⟩ : ∃ L, L = (scnL (othTo d ns i)).length := ⟨_, rfl⟩
            have hLi : L ≤ 16 := by omega
            have HLL := Lib.hid hL
            rw [← hL] at HNQ ⊢
            clear hwb hbb hgb how hnq hL z0 z1 hcs3 hcp
            go_wp2_with fail
            go_loopw [12] (fun j wq => ∃ (k : Nat) (b : Bool), j = .int .i64 k ∧ k ≤ L ∧ b = (sc0 && !(((scnL (othTo d ns i)).take k).any fun x => x == p)) ∧ OwnE wq gb [⟨s, p, b⟩] ∧ Only gb wb wq) (fun j _ => L - (intOf j).toNat)
            case atStart => exact ⟨0, sc0, rfl, Nat.zero_le _, by simp, HOW.out, Only.refl _ _⟩
            case round =>
              obtain ⟨j, b, rfl, hj, hbe, hox, hon⟩ := hrel
              rename World => wq
              have HOX := Lib.hid hox
              have HON := Lib.hid hon
              have hzq := hon.size
              have hkq : Keeps w3 wq := hon.keeps (Keeps.of_below HBB.out) (by have := HGB.out; omega)
              have HKQ := Lib.hid hkq
              have HBE := Lib.hid hbe
              have q0 : wq.cell? ⟨gb, 0, none⟩ = some (.int .i64 s) := (OwnE.cells hox (j := 0) rfl).1
              have q1 : wq.cell? ⟨gb, 1, none⟩ = some (.int .i64 p) := (OwnE.cells hox (j := 0) rfl).2.1
              have q2 : wq.cell? ⟨gb, 2, none⟩ = some (.bool b) := (OwnE.cells hox (j := 0) rfl).2.2
              have f2 := Own.frozen hox 2
              clear hox hon hkq hbe
              by_cases hjL : j < L
              · obtain ⟨adq, x, ead, hx, -, hcx⟩ := (HNQ.out.keep HKQ.out).at_ hjL
                subst ead
                have hat := anyI_take' (p := p) hx
                obtain ⟨bb, hbb⟩ : ∃ bb, bb = ((scnL (othTo d ns i)).take j).any fun x => x == p := ⟨_, rfl⟩
                rw [← hbb] at hat HBE
                have HAT := Lib.hid hat
                have j0 : (0 : Int) ≤ (j : Int) := by omega
                have j1 : (j : Int) < (L : Int) := by omega
                clear hx hat hbb
                by_cases hxp : x = p
                · have dxp : (x == p) = true := by simpa using hxp
                  have hnew : OwnE (wq.drew.setCell ⟨gb, 2, none⟩ (.bool false)) gb [⟨s, p, false⟩] := Own.set_ (show OwnE wq.drew gb [⟨s, p, b⟩] from HOX.out) 2 (.bool false)
                  have HNW := Lib.hid hnew
                  have HN2 := Lib.hid ((HON.out.trans (Only.of_below (Below.refl wq.heap.size wq).drew)).setCell 2 (.bool false))
                  clear hnew
                  go_wp2_with fail
                  refine wp_region_held_drew (S := fun W => W.cell? (adq.add j) = some (.int .i64 x) ∧ W.cell? ⟨gb, 1, none⟩ = some (.int .i64 p)) (by kernel_rfl) ⟨hcx, q1⟩ (fun hHeld => ?_)
                  refine wpAnyH_take (i := 0) (v := ?via0) rfl (by kernel_rfl) (by kernel_rfl) (by kernel_rfl) (fun _ _ _ h => h) (Or.inl ⟨by rfl, ?yia0⟩) hHeld ?ria0
                  case yia0 => (intro W hW; obtain ⟨hW0, hW1⟩ := hW; go_simp; first | done | with_reducible rfl)
                  try simp only [List.getElem_toArray, List.getElem_cons_zero, Act.put, List.setIfInBounds_toArray, List.set_cons_zero, List.set_cons_succ]
                  refine wpAnyH_take (i := 1) (v := ?via1) rfl (by kernel_rfl) (by kernel_rfl) (by kernel_rfl) (fun _ _ _ h => h) (Or.inl ⟨by rfl, ?yia1⟩) hHeld ?ria1
                  case yia1 => (intro W hW; obtain ⟨hW0, hW1⟩ := hW; go_simp; first | done | with_reducible rfl)
                  try simp only [List.getElem_toArray, List.getElem_cons_succ, List.getElem_cons_zero, Act.put, List.setIfInBounds_toArray, List.set_cons_zero, List.set_cons_succ]
                  refine wpAnyH_take (i := 2) (v := ?via2) rfl (by kernel_rfl) (by kernel_rfl) (by kernel_rfl) (fun _ _ _ h => h) (Or.inl ⟨by rfl, ?yia2⟩) hHeld ?ria2
                  case yia2 => (intro W hW; obtain ⟨hW0, hW1⟩ := hW; go_simp; first | done | with_reducible rfl)
                  try simp only [List.getElem_toArray, List.getElem_cons_succ, List.getElem_cons_zero, Act.put, List.setIfInBounds_toArray, List.set_cons_zero, List.set_cons_succ]
                  refine wpAnyH_take (i := 3) (v := ?via3) rfl (by kernel_rfl) (by kernel_rfl) (by kernel_rfl) (fun _ _ _ h => h) (Or.inl ⟨by rfl, ?yia3⟩) hHeld ?ria3
                  case yia3 => (intro W hW; obtain ⟨hW0, hW1⟩ := hW; go_simp; first | done | with_reducible rfl)
                  try simp only [List.getElem_toArray, List.getElem_cons_succ, List.getElem_cons_zero, Act.put, List.setIfInBounds_toArray, List.set_cons_zero, List.set_cons_succ]
                  refine wpAnyH_take (i := 4) (v := ?via4) rfl (by kernel_rfl) (by kernel_rfl) (by kernel_rfl) (fun _ _ _ h => h) (Or.inl ⟨by rfl, ?yia4⟩) hHeld ?ria4
                  case yia4 => (intro W hW; obtain ⟨hW0, hW1⟩ := hW; go_simp; first | done | with_reducible rfl)
                  try simp only [List.getElem_toArray, List.getElem_cons_succ, List.getElem_cons_zero, Act.put, List.setIfInBounds_toArray, List.set_cons_zero, List.set_cons_succ]
                  refine wpAnyH_take (i := 5) (v := ?via5) rfl (by kernel_rfl) (by kernel_rfl) (by kernel_rfl) (fun _ _ _ h => h) (Or.inl ⟨by rfl, ?yia5⟩) hHeld ?ria5
                  case yia5 => (intro W hW; obtain ⟨hW0, hW1⟩ := hW; go_simp; first | done | with_reducible rfl)
                  try simp only [List.getElem_toArray, List.getElem_cons_succ, List.getElem_cons_zero, Act.put, List.setIfInBounds_toArray, List.set_cons_zero, List.set_cons_succ]
                  refine wpAnyH_take (i := 6) (v := ?via6) rfl (by kernel_rfl) (by kernel_rfl) (by kernel_rfl) (fun _ _ _ h => h) (Or.inl ⟨by rfl, ?yia6⟩) hHeld ?ria6
                  case yia6 => (intro W hW; obtain ⟨hW0, hW1⟩ := hW; go_simp; first | done | with_reducible rfl)
                  try simp only [List.getElem_toArray, List.getElem_cons_succ, List.getElem_cons_zero, Act.put, List.setIfInBounds_toArray, List.set_cons_zero, List.set_cons_succ]
                  refine wpAnyH_done (by kernel_rfl) ?_ _
                  go_wp2
                  go_roundw
                  case rel => exact ⟨j + 1, false, by go_num, by omega, by rw [HAT.out, dxp]; simp, HNW.out, HN2.out⟩
                  case measure => simp [intOf]; omega
                · have dxp : (x == p) = false := by simpa using hxp
                  have HN2 := Lib.hid (HON.out.trans (Only.of_below (Below.refl wq.heap.size wq).drew))
                  go_wp2_with fail
                  refine wp_region_held_drew (S := fun W => W.cell? (adq.add j) = some (.int .i64 x) ∧ W.cell? ⟨gb, 1, none⟩ = some (.int .i64 p)) (by kernel_rfl) ⟨hcx, q1⟩ (fun hHeld => ?_)
                  refine wpAnyH_take (i := 0) (v := ?vib0) rfl (by kernel_rfl) (by kernel_rfl) (by kernel_rfl) (fun _ _ _ h => h) (Or.inl ⟨by rfl, ?yib0⟩) hHeld ?rib0
                  case yib0 => (intro W hW; obtain ⟨hW0, hW1⟩ := hW; go_simp; first | done | with_reducible rfl)
                  try simp only [List.getElem_toArray, List.getElem_cons_zero, Act.put, List.setIfInBounds_toArray, List.set_cons_zero, List.set_cons_succ]
                  refine wpAnyH_take (i := 1) (v := ?vib1) rfl (by kernel_rfl) (by kernel_rfl) (by kernel_rfl) (fun _ _ _ h => h) (Or.inl ⟨by rfl, ?yib1⟩) hHeld ?rib1
                  case yib1 => (intro W hW; obtain ⟨hW0, hW1⟩ := hW; go_simp; first | done | with_reducible rfl)
                  try simp only [List.getElem_toArray, List.getElem_cons_succ, List.getElem_cons_zero, Act.put, List.setIfInBounds_toArray, List.set_cons_zero, List.set_cons_succ]
                  refine wpAnyH_take (i := 2) (v := ?vib2) rfl (by kernel_rfl) (by kernel_rfl) (by kernel_rfl) (fun _ _ _ h => h) (Or.inl ⟨by rfl, ?yib2⟩) hHeld ?rib2
                  case yib2 => (intro W hW; obtain ⟨hW0, hW1⟩ := hW; go_simp; first | done | with_reducible rfl)
                  try simp only [List.getElem_toArray, List.getElem_cons_succ, List.getElem_cons_zero, Act.put, List.setIfInBounds_toArray, List.set_cons_zero, List.set_cons_succ]
                  refine wpAnyH_take (i := 3) (v := ?vib3) rfl (by kernel_rfl) (by kernel_rfl) (by kernel_rfl) (fun _ _ _ h => h) (Or.inl ⟨by rfl, ?yib3⟩) hHeld ?rib3
                  case yib3 => (intro W hW; obtain ⟨hW0, hW1⟩ := hW; go_simp; first | done | with_reducible rfl)
                  try simp only [List.getElem_toArray, List.getElem_cons_succ, List.getElem_cons_zero, Act.put, List.setIfInBounds_toArray, List.set_cons_zero, List.set_cons_succ]
                  refine wpAnyH_take (i := 4) (v := ?vib4) rfl (by kernel_rfl) (by kernel_rfl) (by kernel_rfl) (fun _ _ _ h => h) (Or.inl ⟨by rfl, ?yib4⟩) hHeld ?rib4
                  case yib4 => (intro W hW; obtain ⟨hW0, hW1⟩ := hW; go_simp; first | done | with_reducible rfl)
                  try simp only [List.getElem_toArray, List.getElem_cons_succ, List.getElem_cons_zero, Act.put, List.setIfInBounds_toArray, List.set_cons_zero, List.set_cons_succ]
                  refine wpAnyH_take (i := 5) (v := ?vib5) rfl (by kernel_rfl) (by kernel_rfl) (by kernel_rfl) (fun _ _ _ h => h) (Or.inl ⟨by rfl, ?yib5⟩) hHeld ?rib5
                  case yib5 => (intro W hW; obtain ⟨hW0, hW1⟩ := hW; go_simp; first | done | with_reducible rfl)
                  try simp only [List.getElem_toArray, List.getElem_cons_succ, List.getElem_cons_zero, Act.put, List.setIfInBounds_toArray, List.set_cons_zero, List.set_cons_succ]
                  refine wpAnyH_take (i := 6) (v := ?vib6) rfl (by kernel_rfl) (by kernel_rfl) (by kernel_rfl) (fun _ _ _ h => h) (Or.inl ⟨by rfl, ?yib6⟩) hHeld ?rib6
                  case yib6 => (intro W hW; obtain ⟨hW0, hW1⟩ := hW; go_simp; first | done | with_reducible rfl)
                  try simp only [List.getElem_toArray, List.getElem_cons_succ, List.getElem_cons_zero, Act.put, List.setIfInBounds_toArray, List.set_cons_zero, List.set_cons_succ]
                  refine wpAnyH_done (by kernel_rfl) ?_ _
                  go_wp2
                  go_roundw
                  case rel => exact ⟨j + 1, b, by go_num, by omega, by rw [HAT.out, dxp, Bool.or_false]; exact HBE.out, HOX.out, HN2.out⟩
                  case measure => simp [intOf]; omega
              · obtain rfl : j = L := by omega
                have hbe := HBE.out
                rw [show (scnL (othTo d ns i)).take j = scnL (othTo d ns i) from List.take_of_length_le (by rw [← HLL.out]; omega)] at hbe
                have heq : othE d ns (othTo d ns i) i s = ⟨s, p, b⟩ := by rw [HOP3.out, hbe]
                have hth := HTH.out
                have hsn := HSN.out
                rw [heq] at hth hsn
                have HTH2 := Lib.hid hth
                have HSN2 := Lib.hid hsn
                have hbq : Below w3.heap.size w3 wq := HBB.out.trans (HON.out.below (by have := HGB.out; omega) HBB.out.size)
                have HBQ := Lib.hid hbq
                have hoe := HOE3.out.below hbq
                have hoi := HOI3.out.below hbq
                rw [← HLL.out] at hoi
                have hq1 := hbq.size
                have hw2q : w2.heap.size ≤ wq.heap.size := by have := HB3.out.size; omega
                cases b with
                | true =>
                  rw [if_pos rfl] at hsn
                  obtain ⟨u', w5, hrun5, hoi5, hoe5, hb5, hbox⟩ := oi_push2 p hoi hoe hpk (by omega) hw2q
                  obtain ⟨v', w6, hrun6, hoe6, hoi6, hb6⟩ := oe_push ⟨s, p, true⟩ hoe5 hoi5 (by omega) (Nat.le_trans hw2q hb5.size)
                  have Hrun5 := Lib.hid hrun5
                  have Hrun6 := Lib.hid hrun6
                  rw [← HTH2.out] at hoe6
                  rw [← hsn] at hoi6
                  have HOE6 := Lib.hid hoe6
                  have HOI6 := Lib.hid hoi6
                  have HB6 := Lib.hid (((HB3.out.trans (hbq.mono HB3.out.size)).trans hb5).trans hb6)
                  have hgq : gb < wq.heap.size := OwnE.lt HOX.out
                  have hox5 := hbox gb _ HOX.out
                  have c0' : w5.cell? ⟨gb, 0, none⟩ = some (.int .i64 s) := (OwnE.cells hox5 (j := 0) rfl).1
                  have c1' : w5.cell? ⟨gb, 1, none⟩ = some (.int .i64 p) := (OwnE.cells hox5 (j := 0) rfl).2.1
                  have c2' : w5.cell? ⟨gb, 2, none⟩ = some (.bool true) := (OwnE.cells hox5 (j := 0) rfl).2.2
                  clear hrun5 hrun6 hoe5 hoi5 hb5 hbox hox5 hoe6 hoi6 hb6 hoe hoi hbq hbe heq hth hsn hjL
                  go_wp2_with (at_builtin; first | (have _t := Hrun5; refine wpList_append_eq rfl (.tmp 79) (.tmp 82) 22 rfl _ _ _ _ rfl rfl Hrun5.out ?_; clear _t Hrun5) | (have _t := Hrun6; refine wpList_append_eq rfl (.tmp 84) (.tmp 86) 30 rfl _ _ _ _ rfl rfl Hrun6.out ?_; clear _t Hrun6) | fail)
                  go_roundw
                  case rel => exact ⟨i + 1, by go_num, by omega, HOE6.out, HOI6.out, HB6.out⟩
                  case measure => simp [intOf]; omega
                | false =>
                  rw [if_neg (by simp)] at hsn
                  obtain ⟨v', w6, hrun6, hoe6, hoi6, hb6⟩ := oe_push ⟨s, p, false⟩ hoe hoi (by omega) hw2q
                  have Hrun6 := Lib.hid hrun6
                  rw [← hth] at hoe6
                  rw [← hsn] at hoi6
                  have HOE6 := Lib.hid hoe6
                  have HOI6 := Lib.hid hoi6
                  have HB6 := Lib.hid (((HB3.out.trans (hbq.mono HB3.out.size))).trans hb6)
                  clear hrun6 hoe6 hoi6 hb6 hoe hoi hbq hbe heq hth hsn hjL
                  go_wp2_with (at_builtin; have _t := Hrun6; refine wpList_append_eq rfl (.tmp 84) (.tmp 86) 30 rfl _ _ _ _ rfl rfl Hrun6.out ?_; clear _t Hrun6)
                  go_roundw
                  case rel => exact ⟨i + 1, by go_num, by omega, HOE6.out, HOI6.out, HB6.out⟩
                  case measure => simp [intOf]; omega
    · obtain rfl : i = N := by omega
      have ho := HOE.out
      rw [show othTo d ns i = othM d ns by unfold othM; rw [hsl]] at ho
      have HO := Lib.hid (ho.mono HB2.out.size)
      have HBf := Lib.hid (HB2.out.trans (HB.out.mono HB2.out.size))
      clear ho
      go_wp2
      go_ret
      exact ⟨_, rfl, HO.out, HBf.out⟩
end Go.Proofs.YtjllmladhjbnaaaGreatDoor
