/- Package sorts: a level's costs. -/
import Derived.Test.YtjllmladhjbnaaaGreatDoorSoA
import Derived.Test.YtjllmladhjbnaaaGreatDoorRep9
import Derived.Test.YtjllmladhjbnaaaGreatDoorMatUA
namespace Go.Proofs.YtjllmladhjbnaaaGreatDoor
open Go.RowKit Go.Shelf
attribute [local go_sem] Oper.semAt_some
/-- A row of costs, the first k parents' scans laid. -/
def rowP (cs : List Int) (n : Int) (l : Nat) (s : Int) (k : Nat) : List Int :=
  (levL cs.length (l + 1)).map (fun p => if p ∈ (parL s cs.length).take k then sizeB cs n p else 1000000) ++ List.replicate (levL cs.length l).length 1000000
theorem rowP_zero (cs : List Int) (n : Int) (l : Nat) (s : Int) : rowP cs n l s 0 = List.replicate ((levL cs.length (l + 1)).length + (levL cs.length l).length) 1000000 := by
  have : (levL cs.length (l + 1)).map (fun p => if p ∈ (parL s cs.length).take 0 then sizeB cs n p else 1000000) = List.replicate (levL cs.length (l + 1)).length 1000000 := by
    rw [List.eq_replicate_iff]
    refine ⟨by simp, fun x hx => ?_⟩
    obtain ⟨p, -, rfl⟩ := List.mem_map.1 hx
    simp
  unfold rowP
  rw [this, List.replicate_append_replicate]
theorem rowP_len (cs : List Int) (n : Int) (l : Nat) (s : Int) (k : Nat) : (rowP cs n l s k).length = (levL cs.length (l + 1)).length + (levL cs.length l).length := by simp [rowP]
theorem rowP_set {cs : List Int} {n : Int} {l : Nat} {s p : Int} {k i : Nat} (hn : (levL cs.length (l + 1)).Nodup) (hp : (parL s cs.length)[k]? = some p) (hi : (levL cs.length (l + 1))[i]? = some p) :
    (rowP cs n l s k).set i (sizeB cs n p) = rowP cs n l s (k + 1) := by
  obtain ⟨i1, i2⟩ := List.getElem?_eq_some_iff.1 hi
  unfold rowP
  rw [List.set_append_left _ _ (by simpa using i1)]
  congr 1
  apply List.ext_getElem?
  intro j
  by_cases hij : i = j
  · subst hij
    rw [List.getElem?_set_self (by simpa using i1), List.getElem?_map, hi]
    simp [List.take_add_one, hp]
  · rw [List.getElem?_set_ne hij, List.getElem?_map, List.getElem?_map]
    cases hj : (levL cs.length (l + 1))[j]? with
    | none => rfl
    | some x =>
      have hx : x ≠ p := fun e => by
        subst e
        obtain ⟨j1, j2⟩ := List.getElem?_eq_some_iff.1 hj
        exact hij ((List.getElem_inj hn).1 (i2.trans j2.symm))
      simp [List.take_add_one, hp, hx]
theorem rowP_last (cs : List Int) (n : Int) (l i : Nat) (s : Int) (hi : i < (levL cs.length l).length) :
    (rowP cs n l s (parL s cs.length).length).set ((levL cs.length (l + 1)).length + i) (sortB cs n (own cs n s)) = rowM cs n l i s := by
  unfold rowP rowM
  rw [List.take_length, List.set_append_right _ _ (by simp)]
  congr 1
  rw [List.length_map, Nat.add_sub_cancel_left]
  apply List.ext_getElem?
  intro j
  by_cases hj : j < (levL cs.length l).length
  · rw [List.getElem?_map, List.getElem?_range hj]
    by_cases hij : i = j
    · subst hij
      rw [List.getElem?_set_self (by simpa using hi)]
      simp
    · rw [List.getElem?_set_ne hij, List.getElem?_replicate, if_pos hj]
      simp; omega
  · rw [List.getElem?_eq_none (by simp; omega), List.getElem?_eq_none (by simp; omega)]
/-- The first i rows of costs lie in blocks of the call's own, named by a block. -/
structure Tb (B : Nat) (w : World) (gt : Nat) (vs : List Value) (M : List (List Int)) (i : Nat) : Prop where
  own : Own 22 w gt vs
  len : vs.length = M.length
  row : ∀ (j : Nat) (r : List Int), j < i → M[j]? = some r → ∃ g, vs[j]? = some (.slice (some ⟨g, 0, none⟩) r.length r.length) ∧ Arr .i64 3 w g r
theorem Tb.below {B : Nat} {w w' : World} {gt i : Nat} {vs : List Value} {M : List (List Int)} (h : Tb B w gt vs M i) (hb : Below w.heap.size w w') : Tb B w' gt vs M i :=
  ⟨h.own.below hb h.own.lt, h.len, fun j r hj hr => by obtain ⟨g, a, b⟩ := h.row j r hj hr; exact ⟨g, a, b.below hb b.lt⟩⟩
theorem arr_ne_own {W : World} {g gt : Nat} {xs : List Int} {vs : List Value} (h : Arr .i64 3 W g xs) (h' : Own 22 W gt vs) : g ≠ gt := by
  intro e
  subst e
  unfold Arr at h
  unfold Own at h'
  rw [h] at h'
  injection h' with h'
  injection h' with _ h3 _
  exact absurd h3 (by decide)
theorem Tb.step {B : Nat} {w : World} {gt i g : Nat} {vs : List Value} {M : List (List Int)} {r : List Int} (h : Tb B w gt vs M i) (hr : M[i]? = some r) (ha : Arr .i64 3 w g r) :
    Tb B (w.setCell ⟨gt, i, none⟩ (.slice (some ⟨g, 0, none⟩) r.length r.length)) gt (vs.set i (.slice (some ⟨g, 0, none⟩) r.length r.length)) M (i + 1) := by
  have hi := (List.getElem?_eq_some_iff.1 hr).1
  refine ⟨h.own.set_ _ _, by rw [List.length_set]; exact h.len, fun j r' hj hr' => ?_⟩
  have keep : ∀ {g' : Nat} {x : List Int}, Arr .i64 3 w g' x → Arr .i64 3 (w.setCell ⟨gt, i, none⟩ (.slice (some ⟨g, 0, none⟩) r.length r.length)) g' x := fun hx => (Below.heap_setCell _ _ _ _ (arr_ne_own hx h.own)).trans hx
  by_cases hji : j = i
  · subst hji
    obtain rfl : r = r' := Option.some.inj (hr.symm.trans hr')
    exact ⟨g, List.getElem?_set_self (by rw [h.len]; exact hi), keep ha⟩
  · obtain ⟨g', a, b⟩ := h.row j r' (by omega) hr'
    exact ⟨g', by rw [List.getElem?_set_ne (Ne.symm hji)]; exact a, keep b⟩
theorem Tb.mat {B : Nat} {w : World} {gt i : Nat} {vs : List Value} {M : List (List Int)} (h : Tb B w gt vs M i) (hi : M.length ≤ i) (hk : ∀ r ∈ M, ∀ x ∈ r, inK .i64 x) : Mat w (some ⟨gt, 0, none⟩) M.length M := by
  refine ⟨rfl, fun _ => ⟨_, rfl, fun j r hr => ?_⟩⟩
  have hj := (List.getElem?_eq_some_iff.1 hr).1
  obtain ⟨g, a, b⟩ := h.row j r (by omega) hr
  rw [add0]
  exact ⟨_, _, h.own.cell a, b.nums (hk r (List.mem_of_getElem? hr))⟩
/-- A level: its facts, its sets, those above. -/
def lvV (A : Option Addr) (q c mm : Nat) (n : Int) (S : Option Addr) (m cS : Nat) (U : Option Addr) (nu cU : Nat) : Array Value := #[.slice A q c, .int .i64 mm, .int .i64 n, .slice S m cS, .slice U nu cU]
structure LQ (w : World) (A : Option Addr) (q mm : Nat) (cs : List Int) (n : Int) (S : Option Addr) (m : Nat) (U : Option Addr) (nu : Nat) (l : Nat) : Prop where
  fq : FQ w A q mm cs n
  lt : l < q
  sets : Nums .i64 w S m (levL q l)
  above : Nums .i64 w U nu (levL q (l + 1))
theorem LQ.below {B : Nat} {w w' : World} {A : Option Addr} {q mm : Nat} {cs : List Int} {n : Int} {S : Option Addr} {m : Nat} {U : Option Addr} {nu l : Nat} (h : LQ w A q mm cs n S m U nu l) (hb : Below B w w') (hB : w.heap.size ≤ B) : LQ w' A q mm cs n S m U nu l :=
  ⟨h.fq.below hb hB, h.lt, h.sets.keep (Keeps.of_below (hb.mono hB)), h.above.keep (Keeps.of_below (hb.mono hB))⟩
theorem idx_at {xs : List Int} {v : Int} (h : v ∈ xs) : ∃ k : Nat, idxI xs v = k ∧ xs[k]? = some v := by
  unfold idxI
  cases hf : xs.findIdx? (· == v) with
  | none => rw [List.findIdx?_eq_none_iff] at hf; exact absurd (hf v h) (by simp)
  | some k =>
    rw [List.findIdx?_eq_some_iff_getElem] at hf
    obtain ⟨h1, h2, -⟩ := hf
    exact ⟨k, rfl, by rw [List.getElem?_eq_getElem h1]; simpa using h2⟩
set_option maxRecDepth 100000 in
set_option maxHeartbeats 8000000 in
theorem costs_any (A : Option Addr) (q c mm : Nat) (cs : List Int) (n : Int) (S : Option Addr) (m cS : Nat) (U : Option Addr) (nu cU l : Nat) (w : World) (h : LQ w A q mm cs n S m U nu l) :
    Calls Tryz.prog 42 #[.agg (lvV A q c mm n S m cS U nu cU)] w fun e w' => ∃ g, e = .returned (.slice (some ⟨g, 0, none⟩) m m) ∧ Mat w' (some ⟨g, 0, none⟩) m (costM cs n l) ∧ Below w.heap.size w w' := by
  have hcl := h.fq.len
  have hg := h.fq.good
  obtain ⟨b1, b2, b3⟩ := lev_len q h.fq.q1 h.fq.q4 l h.lt
  have hml := h.sets.len
  have hul := h.above.len
  rw [hml] at b1 b2
  rw [hml, hul] at b3
  obtain ⟨w0, hw0⟩ : ∃ w0, w0 = w.alloc (.cells (lvV A q c mm n S m cS U nu cU) 52) := ⟨_, rfl⟩
  have hb0 : Below w.heap.size w w0 := by rw [hw0]; exact below_box w _
  have hbx : Bx w0 w.heap.size (lvV A q c mm n S m cS U nu cU) := by rw [hw0]; exact Bx.new _ _ _
  have hgl : w.heap.size < w0.heap.size := by rw [hw0]; simp
  have hmk := make_rows9 m (by omega) w0
  have hmade := made_slices' w0 22 m
  obtain ⟨w1, hw1⟩ : ∃ w1, w1 = w0.alloc (.cells (madeCells #[.slice none 0 0] m) 22) := ⟨_, rfl⟩
  have hb01 : Below w0.heap.size w0 w1 := by rw [hw1]; exact below_box w0 _
  rw [← hw1] at hmade hmk
  have hb1 := hb0.trans (hb01.mono hb0.size)
  have HL := Lib.hid (h.below hb1 (Nat.le_refl _))
  have HBX := Lib.hid (hbx.keep (Keeps.of_below hb01))
  have HB1 := Lib.hid hb1
  obtain ⟨gt, hgt⟩ : ∃ gt, gt = w0.heap.size := ⟨_, rfl⟩
  rw [← hgt] at hmade hmk hgl
  have hgt1 : gt < w1.heap.size := by rw [hw1, hgt]; simp
  have hwg : w.heap.size ≤ gt := by omega
  have HTB := Lib.hid (show Tb w.heap.size w1 gt (List.replicate m (.slice none 0 0)) (costM cs n l) 0 from ⟨hmade, by rw [List.length_replicate, costM_len, hcl, hml], fun j r hj => absurd hj (by omega)⟩)
  rw [hw0] at hmk
  unfold lvV at hmk
  unfold lvV
  have x3 : w1.cell? ⟨w.heap.size, 3, none⟩ = some (.slice S m cS) := HBX.out 3 _ rfl
  have HLw := Lib.hid h
  have m0 : (0 : Int) ≤ (m : Int) := by omega
  clear hb0 hbx hb01 hb1 hmade hw1 hw0 hgt h HL
  go_enter Tryz.func42, Tryz.ntmps42
  go_wp2_with fail
  go_loopw [16] (fun i wr => ∃ (k : Nat) (vs : List Value), i = .int .i64 k ∧ k ≤ m ∧ Tb w.heap.size wr gt vs (costM cs n l) k ∧ Bx wr w.heap.size (lvV A q c mm n S m cS U nu cU) ∧ Below w.heap.size w wr) (fun i _ => m - (intOf i).toNat)
  case atStart => exact ⟨0, _, rfl, Nat.zero_le _, HTB.out, HBX.out, HB1.out⟩
  case round =>
    obtain ⟨i, vs, rfl, hi, htb, hbx, hb⟩ := hrel
    rename World => wr
    have HT := Lib.hid htb
    have HX := Lib.hid hbx
    have HB := Lib.hid hb
    have hz := hb.size
    have hgr : w.heap.size < wr.heap.size := block_lt (hbx 0 _ rfl)
    have hgtr : gt < wr.heap.size := htb.own.lt
    clear htb hb hmk x3 HB1 HBX HTB
    have x0 : wr.cell? ⟨w.heap.size, 0, none⟩ = some (.slice A q c) := hbx 0 _ rfl
    have x1 : wr.cell? ⟨w.heap.size, 1, none⟩ = some (.int .i64 mm) := hbx 1 _ rfl
    have x2 : wr.cell? ⟨w.heap.size, 2, none⟩ = some (.int .i64 n) := hbx 2 _ rfl
    have x3 : wr.cell? ⟨w.heap.size, 3, none⟩ = some (.slice S m cS) := hbx 3 _ rfl
    have x4 : wr.cell? ⟨w.heap.size, 4, none⟩ = some (.slice U nu cU) := hbx 4 _ rfl
    clear hbx
    by_cases hlt : i < m
    · have hlq := HLw.out.below HB.out (Nat.le_refl _)
      obtain ⟨ad, s, rfl, hs, -, hcs⟩ := hlq.sets.at_ hlt
      have hsl := hlq.lt
      have hsm := List.mem_of_getElem? hs
      have HS := Lib.hid hs
      have i0 : (0 : Int) ≤ (i : Int) := by omega
      have i1 : (i : Int) < (m : Int) := by omega
      obtain ⟨M, hM⟩ : ∃ M : Nat, M = nu + m := ⟨_, rfl⟩
      have hMw : IntKind.i64.wrap ((nu : Int) + (m : Int)) = (M : Int) := by rw [IntWalk.i64_in _ (by omega)]; omega
      have hnum : Nums .i64 (wr.alloc (.cells #[.int .i64 1000000] 3)) (some ⟨wr.heap.size, 0, none⟩) 1 [1000000] := by
        have := (show Arr .i64 3 (wr.alloc (.cells #[.int .i64 1000000] 3)) wr.heap.size [1000000] from heap_alloc_new wr _).nums (by intro x hx; simp at hx; subst hx; constructor <;> omega)
        exact this
      have HR := Lib.hid (repeat_any 1000000 ⟨wr.heap.size, 0, none⟩ M _ hnum (by omega))
      have HM := Lib.hid hM
      clear hs hnum hM
      go_wp2_with fail
      refine HR.out.mono ?_
      rintro e w2 ⟨⟨gr, rfl, har, hgrl⟩, hb2⟩
      have hb2' : Below wr.heap.size wr w2 := (below_box wr _).trans (hb2.mono (by simp))
      have hgr2 : wr.heap.size ≤ gr := by simp at hgrl; omega
      have hrl2 := har.lt
      rw [show List.replicate M 1000000 = rowP cs n l s 0 by rw [rowP_zero, hcl, hml, hul, HM.out]] at har
      have hz2 := hb2'.size
      have hbw2 := HB.out.trans (hb2'.mono hz)
      have hlq2 := HLw.out.below hbw2 (Nat.le_refl _)
      obtain ⟨s0, s1⟩ := lev_bd hlq2.fq.q1 hlq2.fq.q4 hsm
      have HP := Lib.hid (fpar_any A q c mm cs n s w2 hlq2.fq s0 s1)
      have hx2 := HX.out.keep (Keeps.of_below hb2')
      have y0 : w2.cell? ⟨w.heap.size, 0, none⟩ = some (.slice A q c) := hx2 0 _ rfl
      have y1 : w2.cell? ⟨w.heap.size, 1, none⟩ = some (.int .i64 mm) := hx2 1 _ rfl
      have y2 : w2.cell? ⟨w.heap.size, 2, none⟩ = some (.int .i64 n) := hx2 2 _ rfl
      have HX2 := Lib.hid hx2
      have HAR := Lib.hid har
      have HBW2 := Lib.hid hbw2
      have HB2 := Lib.hid hb2'
      clear har hgrl hb2 hb2' hlq2 hlq hcs x0 x1 x2 x3 x4 hbw2 hx2
      go_wp2_with fail
      refine HP.out.mono ?_
      rintro e w3 ⟨v, rfl, ho, hb3⟩
      have hz3 := hb3.size
      have har3 := HAR.out.below hb3 hrl2
      have hbx3 := HX2.out.keep (Keeps.of_below hb3)
      have hbw3 := HBW2.out.trans (hb3.mono HBW2.out.size)
      obtain ⟨P, cP, rfl, -, -, hnp, -⟩ := ho.form
      obtain ⟨np, hnpl⟩ : ∃ np, np = (parL s q).length := ⟨_, rfl⟩
      have hnp4 : np ≤ 4 := by rw [hnpl]; unfold parL; rw [List.length_map]; exact dimsL_le _
      rw [← hnpl] at hnp ho ⊢
      have HO := Lib.hid ho
      have HAR3 := Lib.hid har3
      have HX3 := Lib.hid hbx3
      have HBW3 := Lib.hid hbw3
      have HNPL := Lib.hid hnpl
      have hb23 := Lib.hid (HB2.out.trans (hb3.mono hz2))
      clear hnp ho har3 hbx3 hbw3 hb3 hnpl y0 y1 y2 HAR
      go_wp2_with fail
      go_loopw [35] (fun kk wi => ∃ k : Nat, kk = .int .i64 k ∧ k ≤ np ∧ Arr .i64 3 wi gr (rowP cs n l s k) ∧ Only gr w3 wi) (fun kk _ => np - (intOf kk).toNat)
      case atStart => exact ⟨0, rfl, Nat.zero_le _, HAR3.out, Only.refl _ _⟩
      case round =>
        obtain ⟨k, rfl, hk, ha, hon⟩ := hrel
        rename World => wi
        have HA := Lib.hid ha
        have HON := Lib.hid hon
        have hzi := hon.size
        clear ha hon HAR3
        have hbi := HON.out.below (B := w.heap.size) (by omega) (by omega)
        have HBi := Lib.hid (HBW3.out.trans hbi)
        have hxi : Bx wi w.heap.size (lvV A q c mm n (some ad) m cS U nu cU) := fun j u hu => by
          rw [World.cell?_of_block (HON.out.block _ (by dsimp only; omega) (by dsimp only; omega))]
          exact HX3.out j u hu
        have HXi := Lib.hid hxi
        clear hbi hxi
        by_cases hkt : k < np
        · have hoi : OI w2.heap.size wi (.slice P np cP) (parL s q) := ⟨own_only HO.out.1 HON.out (by omega), HO.out.2⟩
          obtain ⟨P', c', e', -, -, hnp, -⟩ := hoi.form
          injection e' with e1 e2 e3
          subst e1
          rw [← HNPL.out] at hnp
          obtain ⟨ad', p, rfl, hp, -, hcp⟩ := hnp.at_ hkt
          have hlqi := HLw.out.below HBi.out (Nat.le_refl _)
          have hpm := (lev_par q hlqi.fq.q1 hlqi.fq.q4 l hsl s hsm).2 p (List.mem_of_getElem? hp)
          obtain ⟨p0, p1⟩ := lev_bd hlqi.fq.q1 hlqi.fq.q4 hpm
          obtain ⟨j, hj, hpj⟩ := idx_at hpm
          have hjl : j < nu := by have := (List.getElem?_eq_some_iff.1 hpj).1; omega
          have HIX := Lib.hid (index_any U nu cU (levL q (l + 1)) p wi.drew (hlqi.above.keep (Keeps.of_below (Below.refl _ wi).drew)) (by omega))
          rw [hj] at HIX
          have HSC := Lib.hid (fscan_any A q c mm cs n p wi.drew hlqi.fq.drew p0 p1)
          have j0 : (0 : Int) ≤ (j : Int) := by omega
          have jM : (j : Int) < (M : Int) := by have := HM.out; omega
          have k0 : (0 : Int) ≤ (k : Int) := by omega
          have k1 : (k : Int) < (np : Int) := by omega
          have hstep := rowP_set (cs := cs) (n := n) (l := l) (s := s) (p := p) (k := k) (i := j) (lev_nodup (l + 1) hg.d1 hg.d4) (by rw [hcl]; exact hp) (by rw [hcl]; exact hpj)
          have HST := Lib.hid hstep
          have hrl := rowP_len cs n l s k
          rw [hcl, hml, hul] at hrl
          have hcell : (rowP cs n l s k)[j]? = some ((rowP cs n l s k)[j]'(by omega)) := List.getElem?_eq_getElem (by omega)
          have HCE := Lib.hid hcell
          have z0 : wi.cell? ⟨w.heap.size, 0, none⟩ = some (.slice A q c) := HXi.out 0 _ rfl
          have z1 : wi.cell? ⟨w.heap.size, 1, none⟩ = some (.int .i64 mm) := HXi.out 1 _ rfl
          have z2 : wi.cell? ⟨w.heap.size, 2, none⟩ = some (.int .i64 n) := HXi.out 2 _ rfl
          have z4 : wi.cell? ⟨w.heap.size, 4, none⟩ = some (.slice U nu cU) := HXi.out 4 _ rfl
          have hgne : w.heap.size ≠ gr := by omega
          clear e2 e3 hnp hp hpj hj hpm hstep hcell hlqi hoi
          go_wp2_with fail
          refine wp_region_held_drew (S := fun W => W.cell? ⟨w.heap.size, 0, none⟩ = some (.slice A q c) ∧ W.cell? ⟨w.heap.size, 1, none⟩ = some (.int .i64 mm) ∧ W.cell? ⟨w.heap.size, 2, none⟩ = some (.int .i64 n) ∧ W.cell? ⟨w.heap.size, 4, none⟩ = some (.slice U nu cU)) (by kernel_rfl) ⟨z0, z1, z2, z4⟩ (fun hHeld => ?_)
          refine wpAnyH_take (i := 0) (v := ?va0) rfl (by kernel_rfl) (by kernel_rfl) (by kernel_rfl) (fun _ _ _ h => h) (Or.inl ⟨by rfl, ?ya0⟩) hHeld ?ra0
          case ya0 => (intro W hW; obtain ⟨hW0, hW1, hW2, hW4⟩ := hW; go_simp; first | done | with_reducible rfl)
          try simp only [List.getElem_toArray, List.getElem_cons_zero, Act.put, List.setIfInBounds_toArray, List.set_cons_zero, List.set_cons_succ]
          refine wpAnyH_take (i := 1) (v := ?va1) rfl (by kernel_rfl) (by kernel_rfl) (by kernel_rfl) (fun _ _ _ h => h) (Or.inl ⟨by rfl, ?ya1⟩) hHeld ?ra1
          case ya1 => (intro W hW; obtain ⟨hW0, hW1, hW2, hW4⟩ := hW; go_simp; first | done | with_reducible rfl)
          try simp only [List.getElem_toArray, List.getElem_cons_succ, List.getElem_cons_zero, Act.put, List.setIfInBounds_toArray, List.set_cons_zero, List.set_cons_succ]
          refine wpAnyH_take (i := 2) (v := ?va2) rfl (by kernel_rfl) (by kernel_rfl) (by kernel_rfl) (fun _ _ _ h => h) (Or.inl ⟨by rfl, ?ya2⟩) hHeld ?ra2
          case ya2 => (intro W hW; obtain ⟨hW0, hW1, hW2, hW4⟩ := hW; go_simp; first | done | with_reducible rfl)
          try simp only [List.getElem_toArray, List.getElem_cons_succ, List.getElem_cons_zero, Act.put, List.setIfInBounds_toArray, List.set_cons_zero, List.set_cons_succ]
          refine wpAnyH_take (i := 3) (v := ?va3) rfl (by kernel_rfl) (by kernel_rfl) (by kernel_rfl) (fun _ _ _ h => h) (Or.inl ⟨by rfl, ?ya3⟩) hHeld ?ra3
          case ya3 => (intro W hW; obtain ⟨hW0, hW1, hW2, hW4⟩ := hW; go_simp; first | done | with_reducible rfl)
          try simp only [List.getElem_toArray, List.getElem_cons_succ, List.getElem_cons_zero, Act.put, List.setIfInBounds_toArray, List.set_cons_zero, List.set_cons_succ]
          refine wpAnyH_take (i := 5) (v := ?va5) rfl (by kernel_rfl) (by kernel_rfl) (by kernel_rfl) (fun _ _ _ h => h) (Or.inl ⟨by rfl, ?ya5⟩) hHeld ?ra5
          case ya5 => (intro W hW; obtain ⟨hW0, hW1, hW2, hW4⟩ := hW; go_simp; first | done | with_reducible rfl)
          try simp only [List.getElem_toArray, List.getElem_cons_succ, List.getElem_cons_zero, Act.put, List.setIfInBounds_toArray, List.set_cons_zero, List.set_cons_succ]
          refine wpAnyH_take (i := 6) (v := ?va6) rfl (by kernel_rfl) (by kernel_rfl) (by kernel_rfl) (fun _ _ _ h => h) (Or.inl ⟨by rfl, ?ya6⟩) hHeld ?ra6
          case ya6 => (intro W hW; obtain ⟨hW0, hW1, hW2, hW4⟩ := hW; go_simp; first | done | with_reducible rfl)
          try simp only [List.getElem_toArray, List.getElem_cons_succ, List.getElem_cons_zero, Act.put, List.setIfInBounds_toArray, List.set_cons_zero, List.set_cons_succ]
          refine wpAnyH_take (i := 7) (v := ?va7) rfl (by kernel_rfl) (by kernel_rfl) (by kernel_rfl) (fun _ _ _ h => h) (Or.inl ⟨by rfl, ?ya7⟩) hHeld ?ra7
          case ya7 => (intro W hW; obtain ⟨hW0, hW1, hW2, hW4⟩ := hW; go_simp; first | done | with_reducible rfl)
          try simp only [List.getElem_toArray, List.getElem_cons_succ, List.getElem_cons_zero, Act.put, List.setIfInBounds_toArray, List.set_cons_zero, List.set_cons_succ]
          refine wpAnyH_ready (rs := [4]) (by kernel_rfl) (by simp) ?_
          refine AllReadyH.cons rfl (fun K hK => ?_) (AllReadyH.nil)
          go_simp
          refine HIX.out.mono ?_
          rintro e w' ⟨rfl, rfl⟩
          refine hK.out _ _ (hHeld) (fun hHeld => ?_)
          clear hK K
          try simp only [List.getElem_toArray, List.getElem_cons_succ, List.getElem_cons_zero, Act.put, List.setIfInBounds_toArray, List.set_cons_zero, List.set_cons_succ]
          refine wpAnyH_ready (rs := [8]) (by kernel_rfl) (by simp) ?_
          refine AllReadyH.cons rfl (fun K hK => ?_) (AllReadyH.nil)
          go_simp
          refine HSC.out.mono ?_
          rintro e w4 ⟨rfl, hb4⟩
          have k4 := Keeps.of_below hb4
          have HB4 := Lib.hid hb4
          have ha4 := (show Arr .i64 3 wi.drew gr (rowP cs n l s k) from HA.out).below hb4 HA.out.lt
          have HA4 := Lib.hid ha4
          have hc4 := ha4.cell HCE.out
          have hf4 := ha4.frozen j
          clear ha4 hb4
          refine hK.out _ _ (⟨k4 _ _ z0, k4 _ _ z1, k4 _ _ z2, k4 _ _ z4⟩) (fun hHeld => ?_)
          clear hK K
          try simp only [List.getElem_toArray, List.getElem_cons_succ, List.getElem_cons_zero, Act.put, List.setIfInBounds_toArray, List.set_cons_zero, List.set_cons_succ]
          refine wpAnyH_take (i := 9) (v := ?va9) rfl (by kernel_rfl) (by kernel_rfl) (by kernel_rfl) (fun _ _ _ h => h) (Or.inl ⟨by rfl, ?ya9⟩) hHeld ?ra9
          case ya9 => (intro W hW; obtain ⟨hW0, hW1, hW2, hW4⟩ := hW; go_simp; first | done | with_reducible rfl)
          try simp only [List.getElem_toArray, List.getElem_cons_succ, List.getElem_cons_zero, Act.put, List.setIfInBounds_toArray, List.set_cons_zero, List.set_cons_succ]
          have kb : ∀ i', (w4.setCell ⟨gr, j, none⟩ (.int .i64 (sizeB cs n p))).cell? ⟨w.heap.size, i', none⟩ = w4.cell? ⟨w.heap.size, i', none⟩ := fun i' => World.cell?_of_block (Below.heap_setCell _ _ _ _ hgne)
          refine wpAnyH_ready (rs := [10]) (by kernel_rfl) (by simp) ?_
          refine AllReadyH.cons rfl (fun K hK => ?_) (AllReadyH.nil)
          go_simp
          refine hK.out _ _ (by rw [kb, kb, kb, kb]; exact hHeld) (fun hHeld => ?_)
          clear hK K
          try simp only [List.getElem_toArray, List.getElem_cons_succ, List.getElem_cons_zero, Act.put, List.setIfInBounds_toArray, List.set_cons_zero, List.set_cons_succ]
          refine wpAnyH_done (by kernel_rfl) ?_ _
          have hon4 : Only gr w3 (w4.setCell ⟨gr, j, none⟩ (.int .i64 (sizeB cs n p))) := (HON.out.trans ((Only.of_below (Below.refl wi.heap.size wi).drew).trans (Only.of_below HB4.out))).setCell _ _
          have ha5 := HA4.out.set_ j (sizeB cs n p)
          rw [HST.out] at ha5
          have HA5 := Lib.hid ha5
          have HO4 := Lib.hid hon4
          clear ha5 hon4 kb hHeld
          go_wp2
          go_roundw
          case rel => exact ⟨k + 1, by go_num, by omega, HA5.out, HO4.out⟩
          case measure => simp [intOf]; omega
        · obtain rfl : k = np := by omega
          have hlqi := HLw.out.below HBi.out (Nat.le_refl _)
          have hne := (lev_par q hlqi.fq.q1 hlqi.fq.q4 l hsl s hsm).1
          have hpb := fun x hx => lev_bd hlqi.fq.q1 hlqi.fq.q4 ((lev_par q hlqi.fq.q1 hlqi.fq.q4 l hsl s hsm).2 x hx)
          have HSO := Lib.hid (sorted_any A q c mm cs n s wi.drew hlqi.fq.drew s0 s1 hne hpb)
          have hob := hpb (own cs n s) (by have := (own_spec hg (l := l) (by rw [hcl]; exact hsl) (s := s) (by rw [hcl]; exact hsm)).1; rwa [hcl] at this)
          obtain ⟨o, ho⟩ : ∃ o, o = own cs n s := ⟨_, rfl⟩
          rw [← ho] at HSO hob
          obtain ⟨Q, hQ⟩ : ∃ Q : Nat, Q = nu + i := ⟨_, rfl⟩
          have hQw : IntKind.i64.wrap ((nu : Int) + (i : Int)) = (Q : Int) := by rw [IntWalk.i64_in _ (by omega)]; omega
          have q0 : (0 : Int) ≤ (Q : Int) := by omega
          have qM : (Q : Int) < (M : Int) := by have := HM.out; omega
          have ha := HA.out
          rw [HNPL.out, ← hcl] at ha
          have HA9 := Lib.hid ha
          have hlast := rowP_last cs n l i s (by rw [hcl, hml]; exact hlt)
          rw [← ho, show (levL cs.length (l + 1)).length = nu by rw [hcl, hul], ← hQ] at hlast
          have hrl := rowP_len cs n l s (parL s cs.length).length
          rw [hcl, hml, hul] at hrl
          have hrl2 : (rowP cs n l s (parL s cs.length).length).length = nu + m := by rw [hcl]; exact hrl
          obtain ⟨xc, hcell⟩ : ∃ x, (rowP cs n l s (parL s cs.length).length)[Q]? = some x := ⟨_, List.getElem?_eq_getElem (by omega)⟩
          have HCE := Lib.hid hcell
          have HLA := Lib.hid hlast
          have HOO := Lib.hid ho
          have z0 : wi.cell? ⟨w.heap.size, 0, none⟩ = some (.slice A q c) := HXi.out 0 _ rfl
          have z1 : wi.cell? ⟨w.heap.size, 1, none⟩ = some (.int .i64 mm) := HXi.out 1 _ rfl
          have z2 : wi.cell? ⟨w.heap.size, 2, none⟩ = some (.int .i64 n) := HXi.out 2 _ rfl
          have z4 : wi.cell? ⟨w.heap.size, 4, none⟩ = some (.slice U nu cU) := HXi.out 4 _ rfl
          have hgne : w.heap.size ≠ gr := by omega
          have HFQ := Lib.hid (hlqi.fq.drew)
          clear hne hpb ho hQ ha hlast hrl hrl2 hcell hlqi
          go_wp2_with fail
          refine wp_region_held_drew (S := fun W => W.cell? ⟨w.heap.size, 0, none⟩ = some (.slice A q c) ∧ W.cell? ⟨w.heap.size, 1, none⟩ = some (.int .i64 mm) ∧ W.cell? ⟨w.heap.size, 2, none⟩ = some (.int .i64 n) ∧ W.cell? ⟨w.heap.size, 4, none⟩ = some (.slice U nu cU)) (by kernel_rfl) ⟨z0, z1, z2, z4⟩ (fun hHeld => ?_)
          refine wpAnyH_take (i := 0) (v := ?vb0) rfl (by kernel_rfl) (by kernel_rfl) (by kernel_rfl) (fun _ _ _ h => h) (Or.inl ⟨by rfl, ?yb0⟩) hHeld ?rb0
          case yb0 => (intro W hW; obtain ⟨hW0, hW1, hW2, hW4⟩ := hW; go_simp; first | done | with_reducible rfl)
          try simp only [List.getElem_toArray, List.getElem_cons_zero, Act.put, List.setIfInBounds_toArray, List.set_cons_zero, List.set_cons_succ]
          refine wpAnyH_take (i := 1) (v := ?vb1) rfl (by kernel_rfl) (by kernel_rfl) (by kernel_rfl) (fun _ _ _ h => h) (Or.inl ⟨by rfl, ?yb1⟩) hHeld ?rb1
          case yb1 => (intro W hW; obtain ⟨hW0, hW1, hW2, hW4⟩ := hW; go_simp; first | done | with_reducible rfl)
          try simp only [List.getElem_toArray, List.getElem_cons_succ, List.getElem_cons_zero, Act.put, List.setIfInBounds_toArray, List.set_cons_zero, List.set_cons_succ]
          refine wpAnyH_take (i := 2) (v := ?vb2) rfl (by kernel_rfl) (by kernel_rfl) (by kernel_rfl) (fun _ _ _ h => h) (Or.inl ⟨by rfl, ?yb2⟩) hHeld ?rb2
          case yb2 => (intro W hW; obtain ⟨hW0, hW1, hW2, hW4⟩ := hW; go_simp; first | done | with_reducible rfl)
          try simp only [List.getElem_toArray, List.getElem_cons_succ, List.getElem_cons_zero, Act.put, List.setIfInBounds_toArray, List.set_cons_zero, List.set_cons_succ]
          refine wpAnyH_take (i := 3) (v := ?vb3) rfl (by kernel_rfl) (by kernel_rfl) (by kernel_rfl) (fun _ _ _ h => h) (Or.inl ⟨by rfl, ?yb3⟩) hHeld ?rb3
          case yb3 => (intro W hW; obtain ⟨hW0, hW1, hW2, hW4⟩ := hW; go_simp; first | done | with_reducible rfl)
          try simp only [List.getElem_toArray, List.getElem_cons_succ, List.getElem_cons_zero, Act.put, List.setIfInBounds_toArray, List.set_cons_zero, List.set_cons_succ]
          refine wpAnyH_take (i := 4) (v := ?vb4) rfl (by kernel_rfl) (by kernel_rfl) (by kernel_rfl) (fun _ _ _ h => h) (Or.inl ⟨by rfl, ?yb4⟩) hHeld ?rb4
          case yb4 => (intro W hW; obtain ⟨hW0, hW1, hW2, hW4⟩ := hW; go_simp; first | done | with_reducible rfl)
          try simp only [List.getElem_toArray, List.getElem_cons_succ, List.getElem_cons_zero, Act.put, List.setIfInBounds_toArray, List.set_cons_zero, List.set_cons_succ]
          refine wpAnyH_take (i := 5) (v := ?vb5) rfl (by kernel_rfl) (by kernel_rfl) (by kernel_rfl) (fun _ _ _ h => h) (Or.inl ⟨by rfl, ?yb5⟩) hHeld ?rb5
          case yb5 => (intro W hW; obtain ⟨hW0, hW1, hW2, hW4⟩ := hW; go_simp; first | done | with_reducible rfl)
          try simp only [List.getElem_toArray, List.getElem_cons_succ, List.getElem_cons_zero, Act.put, List.setIfInBounds_toArray, List.set_cons_zero, List.set_cons_succ]
          refine wpAnyH_take (i := 6) (v := ?vb6) rfl (by kernel_rfl) (by kernel_rfl) (by kernel_rfl) (fun _ _ _ h => h) (Or.inl ⟨by rfl, ?yb6⟩) hHeld ?rb6
          case yb6 => (intro W hW; obtain ⟨hW0, hW1, hW2, hW4⟩ := hW; go_simp; first | done | with_reducible rfl)
          try simp only [List.getElem_toArray, List.getElem_cons_succ, List.getElem_cons_zero, Act.put, List.setIfInBounds_toArray, List.set_cons_zero, List.set_cons_succ]
          refine wpAnyH_take (i := 7) (v := ?vb7) rfl (by kernel_rfl) (by kernel_rfl) (by kernel_rfl) (fun _ _ _ h => h) (Or.inl ⟨by rfl, ?yb7⟩) hHeld ?rb7
          case yb7 => (intro W hW; obtain ⟨hW0, hW1, hW2, hW4⟩ := hW; go_simp; first | done | with_reducible rfl)
          try simp only [List.getElem_toArray, List.getElem_cons_succ, List.getElem_cons_zero, Act.put, List.setIfInBounds_toArray, List.set_cons_zero, List.set_cons_succ]
          refine wpAnyH_take (i := 8) (v := ?vb8) rfl (by kernel_rfl) (by kernel_rfl) (by kernel_rfl) (fun _ _ _ h => h) (Or.inl ⟨by rfl, ?yb8⟩) hHeld ?rb8
          case yb8 => (intro W hW; obtain ⟨hW0, hW1, hW2, hW4⟩ := hW; go_simp; first | done | with_reducible rfl)
          try simp only [List.getElem_toArray, List.getElem_cons_succ, List.getElem_cons_zero, Act.put, List.setIfInBounds_toArray, List.set_cons_zero, List.set_cons_succ]
          refine wpAnyH_take (i := 9) (v := ?vb9) rfl (by kernel_rfl) (by kernel_rfl) (by kernel_rfl) (fun _ _ _ h => h) (Or.inl ⟨by rfl, ?yb9⟩) hHeld ?rb9
          case yb9 => (intro W hW; obtain ⟨hW0, hW1, hW2, hW4⟩ := hW; go_simp; first | done | with_reducible rfl)
          try simp only [List.getElem_toArray, List.getElem_cons_succ, List.getElem_cons_zero, Act.put, List.setIfInBounds_toArray, List.set_cons_zero, List.set_cons_succ]
          refine wpAnyH_take (i := 10) (v := ?vb10) rfl (by kernel_rfl) (by kernel_rfl) (by kernel_rfl) (fun _ _ _ h => h) (Or.inl ⟨by rfl, ?yb10⟩) hHeld ?rb10
          case yb10 => (intro W hW; obtain ⟨hW0, hW1, hW2, hW4⟩ := hW; go_simp; first | done | with_reducible rfl)
          try simp only [List.getElem_toArray, List.getElem_cons_succ, List.getElem_cons_zero, Act.put, List.setIfInBounds_toArray, List.set_cons_zero, List.set_cons_succ]
          refine wpAnyH_ready (rs := [11]) (by kernel_rfl) (by simp) ?_
          refine AllReadyH.cons rfl (fun K hK => ?_) (AllReadyH.nil)
          go_simp
          refine HSO.out.mono ?_
          rintro e w5 ⟨rfl, hb5⟩
          have k5 := Keeps.of_below hb5
          have HB5 := Lib.hid hb5
          have HF5 := Lib.hid (HFQ.out.below hb5 (Nat.le_refl _))
          clear hb5
          refine hK.out _ _ (⟨k5 _ _ z0, k5 _ _ z1, k5 _ _ z2, k5 _ _ z4⟩) (fun hHeld => ?_)
          clear hK K
          try simp only [List.getElem_toArray, List.getElem_cons_succ, List.getElem_cons_zero, Act.put, List.setIfInBounds_toArray, List.set_cons_zero, List.set_cons_succ]
          refine wpAnyH_ready (rs := [12]) (by kernel_rfl) (by simp) ?_
          refine AllReadyH.cons rfl (fun K hK => ?_) (AllReadyH.nil)
          go_simp
          refine (fsort_any A q c mm cs n o w5 HF5.out hob.1 hob.2).mono ?_
          rintro e w6 ⟨rfl, hb6⟩
          have k6 := Keeps.of_below hb6
          have hb56 := HB5.out.trans (hb6.mono HB5.out.size)
          have HB6 := Lib.hid hb56
          have ha6 := (show Arr .i64 3 wi.drew gr (rowP cs n l s (parL s cs.length).length) from HA9.out).below hb56 HA9.out.lt
          have HA6 := Lib.hid ha6
          have hc6 := ha6.cell HCE.out
          have hf6 := ha6.frozen Q
          clear ha6 hb6 hb56
          refine hK.out _ _ (⟨k6 _ _ hHeld.1, k6 _ _ hHeld.2.1, k6 _ _ hHeld.2.2.1, k6 _ _ hHeld.2.2.2⟩) (fun hHeld => ?_)
          clear hK K
          try simp only [List.getElem_toArray, List.getElem_cons_succ, List.getElem_cons_zero, Act.put, List.setIfInBounds_toArray, List.set_cons_zero, List.set_cons_succ]
          refine wpAnyH_take (i := 13) (v := ?vb13) rfl (by kernel_rfl) (by kernel_rfl) (by kernel_rfl) (fun _ _ _ h => h) (Or.inl ⟨by rfl, ?yb13⟩) hHeld ?rb13
          case yb13 => (intro W hW; obtain ⟨hW0, hW1, hW2, hW4⟩ := hW; go_simp; first | done | with_reducible rfl)
          try simp only [List.getElem_toArray, List.getElem_cons_succ, List.getElem_cons_zero, Act.put, List.setIfInBounds_toArray, List.set_cons_zero, List.set_cons_succ]
          have kb : ∀ i', (w6.setCell ⟨gr, Q, none⟩ (.int .i64 (sortB cs n o))).cell? ⟨w.heap.size, i', none⟩ = w6.cell? ⟨w.heap.size, i', none⟩ := fun i' => World.cell?_of_block (Below.heap_setCell _ _ _ _ hgne)
          refine wpAnyH_ready (rs := [14]) (by kernel_rfl) (by simp) ?_
          refine AllReadyH.cons rfl (fun K hK => ?_) (AllReadyH.nil)
          go_simp
          refine hK.out _ _ (by rw [kb, kb, kb, kb]; exact hHeld) (fun hHeld => ?_)
          clear hK K
          try simp only [List.getElem_toArray, List.getElem_cons_succ, List.getElem_cons_zero, Act.put, List.setIfInBounds_toArray, List.set_cons_zero, List.set_cons_succ]
          refine wpAnyH_done (by kernel_rfl) ?_ _
          have ha7 := HA6.out.set_ Q (sortB cs n o)
          rw [HLA.out] at ha7
          have hbz := HON.out.below (B := wr.heap.size) hgr2 (by omega)
          have hb7 : Below wr.heap.size wr (w6.setCell ⟨gr, Q, none⟩ (.int .i64 (sortB cs n o))) :=
            (((hb23.out.trans hbz).drew).trans (HB6.out.mono (show wr.heap.size ≤ wi.heap.size by omega))).setCell (p := ⟨gr, Q, none⟩) hgr2 _
          obtain ⟨w7, hw7⟩ : ∃ w7, w7 = w6.setCell ⟨gr, Q, none⟩ (.int .i64 (sortB cs n o)) := ⟨_, rfl⟩
          have hx7 : Bx w7 w.heap.size (lvV A q c mm n (some ad) m cS U nu cU) := by
            rw [hw7]
            have hk56 := Keeps.of_below HB6.out
            exact (Bx.keep (W := wi) HXi.out (fun p v h => hk56 p v h)).other hgne _ _
          rw [← hw7] at ha7 hb7 ⊢
          have ht7 := HT.out.below hb7
          have hco := costM_of (cs := cs) (n := n) (l := l) (i := i) (s := s) (by rw [hcl]; exact HS.out)
          have hrlen := rowM_len (cs := cs) (n := n) l i s
          rw [hcl, hul, hml, ← HM.out] at hrlen
          have ht8 := ht7.step hco ha7
          rw [hrlen] at ht8
          have hvl := ht7.len
          rw [costM_len, hcl, hml] at hvl
          obtain ⟨xv, hxv⟩ : ∃ x, vs[i]? = some x := ⟨_, List.getElem?_eq_getElem (by omega)⟩
          have hct := ht7.own.cell hxv
          have hft := ht7.own.frozen i
          have hgt7 : w.heap.size ≠ gt := by omega
          have HT8 := Lib.hid ht8
          have HX8 := Lib.hid (hx7.other hgt7 i (.slice (some ⟨gr, 0, none⟩) M M))
          have HB8 := Lib.hid ((HB.out.trans (hb7.mono hz)).setCell (p := ⟨gt, i, none⟩) hwg (.slice (some ⟨gr, 0, none⟩) M M))
          clear hw7 ha7 hbz hb7 hx7 ht7 ht8 hco hrlen hvl hxv kb hHeld
          go_wp2
          go_roundw
          case rel => exact ⟨i + 1, _, by go_num, by omega, HT8.out, HX8.out, HB8.out⟩
          case measure => simp [intOf]; omega
    · obtain rfl : i = m := by omega
      have hM := HT.out.mat (by rw [costM_len, hcl, hml]; omega) (fun r hr x hx => by
        obtain ⟨i', s', hs', rfl⟩ := costM_row hr
        have := rowM_bd hg (by rw [hcl]; exact HLw.out.lt) hs' x hx
        constructor <;> omega)
      rw [costM_len, hcl, hml] at hM
      have HM := Lib.hid hM
      clear hM
      go_wp2
      go_ret
      exact ⟨gt, rfl, HM.out, HB.out⟩
end Go.Proofs.YtjllmladhjbnaaaGreatDoor
/- Package sorts: a level's edges. -/
namespace Go.Proofs.YtjllmladhjbnaaaGreatDoor
open Go.RowKit Go.Shelf
attribute [local go_sem] Oper.semAt_some
set_option maxRecDepth 100000 in
set_option maxHeartbeats 4000000 in
theorem edge_any (A : Option Addr) (q c mm : Nat) (cs : List Int) (n : Int) (S : Option Addr) (m cS : Nat) (U : Option Addr) (nu cU l : Nat) (s : Int) (k : Nat) (w : World) (h : LQ w A q mm cs n S m U nu l) (hs : s ∈ levL q l) (hk : k ≤ 1000) :
    Calls Tryz.prog 43 #[.agg (lvV A q c mm n S m cS U nu cU), .int .i64 s, .int .i64 k] w fun e w' => e = .returned (eV (edM cs n l s k)) ∧ Below w.heap.size w w' := by
  have hcl := h.fq.len
  have hul := h.above.len
  obtain ⟨w0, hw0⟩ : ∃ w0, w0 = (w.alloc (.cells (lvV A q c mm n S m cS U nu cU) 52)).alloc (.cells #[.int .i64 0, .int .i64 0, .bool false] 42) := ⟨_, rfl⟩
  have hb0 : Below w.heap.size w w0 := by rw [hw0]; exact (below_box w _).alloc (by simp) _
  have HL := Lib.hid (h.below hb0 (Nat.le_refl _))
  obtain ⟨s0, s1⟩ := lev_bd h.fq.q1 h.fq.q4 hs
  have hne := (lev_par q h.fq.q1 h.fq.q4 l h.lt s hs).1
  have hpb := fun x hx => lev_bd h.fq.q1 h.fq.q4 ((lev_par q h.fq.q1 h.fq.q4 l h.lt s hs).2 x hx)
  have HSO := Lib.hid (sorted_any A q c mm cs n s w0 (h.fq.below hb0 (Nat.le_refl _)) s0 s1 hne hpb)
  have HB0 := Lib.hid hb0
  have hnub : nu ≤ 1000 := by
    have := (lev_len q h.fq.q1 h.fq.q4 l h.lt).2.2
    rw [h.above.len] at this
    omega
  by_cases hlt : k < nu
  · obtain ⟨ad, p, e, hp, -, hcp⟩ := h.above.at_ hlt
    have hcp0 := (Keeps.of_below hb0) _ _ hcp
    subst e
    have he : edM cs n l s k = ⟨s, p, true⟩ := by
      unfold edM
      rw [hcl, hul, if_pos hlt, List.getD_eq_getElem?_getD, hp]
      rfl
    rw [he]
    have k0 : (0 : Int) ≤ (k : Int) := by omega
    have k1 : (k : Int) < (nu : Int) := by omega
    rw [hw0] at hcp0
    unfold lvV at hcp0 hw0
    unfold lvV eV
    have HW0 := Lib.hid hw0
    clear hw0 hb0 hne hpb h hp he HSO
    go_enter Tryz.func43, Tryz.ntmps43
    go_wp2
    have hfin := Bx.new (w.alloc (.cells #[.slice A q c, .int .i64 mm, .int .i64 n, .slice S m cS, .slice (some ad) nu cU] 52)) #[.int .i64 s, .int .i64 p, .bool true] 42
    rw [World.size_alloc] at hfin
    obtain ⟨wf, hwf⟩ : ∃ wf, wf = (w.alloc (.cells #[.slice A q c, .int .i64 mm, .int .i64 n, .slice S m cS, .slice (some ad) nu cU] 52)).alloc (.cells #[.int .i64 s, .int .i64 p, .bool true] 42) := ⟨_, rfl⟩
    have hbf : Below w.heap.size w wf := by rw [hwf]; exact (below_box w _).alloc (by simp) _
    rw [← hwf] at hfin ⊢
    have r0 := hfin 0 _ rfl
    have r1 := hfin 1 _ rfl
    have r2 := hfin 2 _ rfl
    exact bodyPost_ret (v := .agg #[.int .i64 s, .int .i64 p, .bool true]) (by simp [results, Tryz.results43, go_sem, r0, r1, r2]) rfl ⟨rfl, hbf⟩
  · have he : edM cs n l s k = ⟨s, own cs n s, false⟩ := by
      unfold edM
      rw [hcl, hul, if_neg hlt]
    rw [he]
    have k1 : ¬ (k : Int) < (nu : Int) := by omega
    unfold lvV eV
    unfold lvV at hw0
    obtain ⟨o, ho⟩ : ∃ o, o = own cs n s := ⟨_, rfl⟩
    rw [← ho] at HSO ⊢
    have HW0 := Lib.hid hw0
    have c6 : w0.cell? ⟨w.heap.size + 1, 0, none⟩ = some (.int .i64 0) ∧ w0.cell? ⟨w.heap.size + 1, 1, none⟩ = some (.int .i64 0) ∧ w0.cell? ⟨w.heap.size + 1, 2, none⟩ = some (.bool false) := by
      have := Bx.new (w.alloc (.cells #[.slice A q c, .int .i64 mm, .int .i64 n, .slice S m cS, .slice U nu cU] 52)) #[.int .i64 0, .int .i64 0, .bool false] 42
      rw [← hw0, World.size_alloc] at this
      exact ⟨this 0 _ rfl, this 1 _ rfl, this 2 _ rfl⟩
    have f6 : ∀ j, w0.frozen? ⟨w.heap.size + 1, j, none⟩ = false := fun j => by
      have := heap_alloc_new (w.alloc (.cells #[.slice A q c, .int .i64 mm, .int .i64 n, .slice S m cS, .slice U nu cU] 52)) (.cells #[.int .i64 0, .int .i64 0, .bool false] 42)
      rw [← hw0, World.size_alloc] at this
      simp [World.frozen?, this]
    have hz6 : w.heap.size + 1 < w0.heap.size := block_lt c6.1
    have HC6 := Lib.hid c6
    have HF6 := Lib.hid f6
    clear hw0 hb0 hne hpb h he ho c6 f6
    go_enter Tryz.func43, Tryz.ntmps43
    go_wp2_with fail
    rw [← HW0.out]
    refine HSO.out.mono ?_
    rintro e w1 ⟨rfl, hb1⟩
    have k1 := Keeps.of_below hb1
    have d0 := k1 _ _ HC6.out.1
    have d1 := k1 _ _ HC6.out.2.1
    have d2 := k1 _ _ HC6.out.2.2
    have f0 := (hb1.frozen (p := ⟨w.heap.size + 1, 0, none⟩) hz6).trans (HF6.out 0)
    have f1 := (hb1.frozen (p := ⟨w.heap.size + 1, 1, none⟩) hz6).trans (HF6.out 1)
    have f2 := (hb1.frozen (p := ⟨w.heap.size + 1, 2, none⟩) hz6).trans (HF6.out 2)
    have HB1 := Lib.hid (HB0.out.trans (hb1.mono HB0.out.size))
    have hz1 := hb1.size
    clear hb1 k1
    go_wp2
    exact bodyPost_ret (v := .agg #[.int .i64 s, .int .i64 o, .bool false]) (by simp [results, Tryz.results43, go_sem, d0, d1, d2]) rfl ⟨rfl, ((HB1.out.setCell (p := ⟨w.heap.size + 1, 0, none⟩) (by show w.heap.size ≤ w.heap.size + 1; omega) _).setCell (p := ⟨w.heap.size + 1, 1, none⟩) (by show w.heap.size ≤ w.heap.size + 1; omega) _).setCell (p := ⟨w.heap.size + 1, 2, none⟩) (by show w.heap.size ≤ w.heap.size + 1; omega) _⟩
end Go.Proofs.YtjllmladhjbnaaaGreatDoor
/- Package sorts: the edges of a level. -/
namespace Go.Proofs.YtjllmladhjbnaaaGreatDoor
open Go.RowKit Go.Shelf
attribute [local go_sem] Oper.semAt_some
/-- The first edges of a level; the rest is zero. -/
def edsP (cs : List Int) (n : Int) (l k : Nat) : List Ed := (edsM cs n l).take k ++ List.replicate ((edsM cs n l).length - k) zE
theorem edsP_zero (cs : List Int) (n : Int) (l : Nat) : edsP cs n l 0 = List.replicate (edsM cs n l).length zE := by simp [edsP]
theorem edsP_all (cs : List Int) (n : Int) (l : Nat) : edsP cs n l (edsM cs n l).length = edsM cs n l := by simp [edsP]
theorem edsP_len {cs : List Int} {n : Int} {l k : Nat} (h : k ≤ (edsM cs n l).length) : (edsP cs n l k).length = (edsM cs n l).length := by simp [edsP]; omega
theorem edsP_set {cs : List Int} {n : Int} {l k : Nat} {e : Ed} (h : (edsM cs n l)[k]? = some e) : (edsP cs n l k).set k e = edsP cs n l (k + 1) := by
  have hk := (List.getElem?_eq_some_iff.1 h).1
  unfold edsP
  rw [List.set_append_right _ _ (by simp; omega), List.take_add_one, h, List.append_assoc]
  congr 1
  obtain ⟨d, hd⟩ : ∃ d, (edsM cs n l).length - k = d + 1 := ⟨(edsM cs n l).length - k - 1, by omega⟩
  have h0 : k - (List.take k (edsM cs n l)).length = 0 := by simp; omega
  rw [h0, hd, List.replicate_succ, List.set_cons_zero, show (edsM cs n l).length - (k + 1) = d by omega]
  rfl
set_option maxRecDepth 100000 in
set_option maxHeartbeats 8000000 in
theorem edges_any (A : Option Addr) (q c mm : Nat) (cs : List Int) (n : Int) (S : Option Addr) (m cS : Nat) (U : Option Addr) (nu cU l : Nat) (w : World) (h : LQ w A q mm cs n S m U nu l) :
    Calls Tryz.prog 22 #[.agg (lvV A q c mm n S m cS U nu cU)] w fun e w' => ∃ g, e = .returned (.slice (some ⟨g, 0, none⟩) m m) ∧ OwnE w' g (edsM cs n l) ∧ w.heap.size ≤ g ∧ Below w.heap.size w w' := by
  have hcl := h.fq.len
  have hg := h.fq.good
  have hlt := h.lt
  have hml := h.sets.len
  have hul := h.above.len
  obtain ⟨b1, b2, b3⟩ := lev_len q h.fq.q1 h.fq.q4 l h.lt
  rw [hml] at b1 b2
  rw [hml, hul] at b3
  obtain ⟨w0, hw0⟩ : ∃ w0, w0 = w.alloc (.cells (lvV A q c mm n S m cS U nu cU) 52) := ⟨_, rfl⟩
  have hb0 : Below w.heap.size w w0 := by rw [hw0]; exact below_box w _
  have hbx : Bx w0 w.heap.size (lvV A q c mm n S m cS U nu cU) := by rw [hw0]; exact Bx.new _ _ _
  have HC := Lib.hid (costs_any A q c mm cs n S m cS U nu cU l w0 (h.below hb0 (Nat.le_refl _)))
  have HL := Lib.hid h
  have HB0 := Lib.hid hb0
  have HX0 := Lib.hid hbx
  have hokM := costM_ok hg (l := l) (by rw [hcl]; exact hlt)
  have hcml := costM_len (cs := cs) (n := n) l
  rw [hcl, hml] at hcml
  have htl := toL_len hokM
  rw [hcml] at htl
  have hrb : ∀ r ∈ costM cs n l, r.length ≤ 1000000 := fun r hr => by
    have := costM_rows r hr
    rw [hcl, hml, hul] at this
    omega
  have HRB := Lib.hid hrb
  have hel := edsM_len hg (l := l) (by rw [hcl]; exact hlt)
  rw [hcl, hml] at hel
  have hto : ∀ (k : Nat) (x : Int), (toL (costM cs n l))[k]? = some x → ∃ t : Nat, x = t ∧ t ≤ 1000 ∧ ∀ s, (levL q l)[k]? = some s → (edsM cs n l)[k]? = some (edM cs n l s t) := fun k x hx => by
    rw [toL_ok hokM, List.getElem?_map] at hx
    cases ht : (fst1 (costM cs n l) 0)[k]? with
    | none => rw [ht] at hx; simp at hx
    | some t =>
      rw [ht] at hx
      simp at hx
      refine ⟨t, hx.symm, ?_, fun s hs => edsM_of (by rw [hcl]; exact hs) ht⟩
      have := (fst1_spec hokM).2.2 t (List.mem_of_getElem? ht)
      have := (okM_spec hokM).1
      omega
  have HTO := Lib.hid hto
  unfold lvV at hw0
  have HW0 := Lib.hid hw0
  obtain ⟨T, hT⟩ : ∃ T, T = toL (costM cs n l) := ⟨_, rfl⟩
  obtain ⟨tt, htt⟩ : ∃ tt, tt = totL (costM cs n l) := ⟨_, rfl⟩
  have hAS := fun A' W hM => assign_any A' m m (costM cs n l) W hM (by omega) hrb
  rw [← hT, ← htt] at hAS
  rw [← hT] at HTO htl
  have HAS := Lib.hid hAS
  unfold lvV at HC
  unfold lvV
  clear h hb0 hbx hrb hto hw0 hT htt hAS hokM
  go_enter Tryz.func22, Tryz.ntmps22
  go_wp2_with fail
  rw [← HW0.out]
  refine HC.out.mono ?_
  rintro e w1 ⟨g1, rfl, hm1, hb1⟩
  have HB1 := Lib.hid (HB0.out.trans (hb1.mono HB0.out.size))
  have HX1 := Lib.hid (HX0.out.keep (Keeps.of_below hb1))
  have HM1 := Lib.hid hm1
  clear hm1 hb1
  go_wp2_with fail
  refine (HAS.out _ w1 HM1.out).mono ?_
  rintro e w2 ⟨v, rfl, ho, hb2⟩
  obtain ⟨P, cP, rfl, -, -, hnp, -⟩ := ho.form
  have hbw2 := HB1.out.trans (hb2.mono HB1.out.size)
  have HB2 := Lib.hid hbw2
  have HX2 := Lib.hid (HX1.out.keep (Keeps.of_below hb2))
  rw [htl] at hnp ⊢
  have HNP := Lib.hid hnp
  obtain ⟨w3, hw3⟩ : ∃ w3, w3 = w2.alloc (.cells (madeCells #[.int .i64 0, .int .i64 0, .bool false] (m * 3)) 42) := ⟨_, rfl⟩
  have hmk := make_edges m (by omega) w2
  have hmd := OwnE.made w2 m
  have hk23 : Keeps w2 w3 := by rw [hw3]; exact Keeps.of_below (below_box w2 _)
  have hb3 : Below w.heap.size w w3 := by rw [hw3]; exact hbw2.alloc hbw2.size _
  rw [← hw3] at hmk hmd
  have hz3 : w2.heap.size < w3.heap.size := hmd.lt
  obtain ⟨ge, hge⟩ : ∃ ge, ge = w2.heap.size := ⟨_, rfl⟩
  rw [← hge] at hmk hmd
  have hgw : w.heap.size ≤ ge := by rw [hge]; exact hbw2.size
  rw [show List.replicate m zE = edsP cs n l 0 by rw [edsP_zero, hel]] at hmd
  have HMD := Lib.hid hmd
  have HK23 := Lib.hid hk23
  have HB3 := Lib.hid hb3
  have HGE := Lib.hid hge
  clear hb2 ho hnp hw3 hmd hk23 hb3 hge hbw2
  go_wp2_with fail
  clear hmk
  go_loopw [21] (fun i wr => ∃ k : Nat, i = .int .i64 k ∧ k ≤ m ∧ OwnE wr ge (edsP cs n l k) ∧ Only ge w3 wr) (fun i _ => m - (intOf i).toNat)
  case atStart => exact ⟨0, rfl, Nat.zero_le _, HMD.out, Only.refl _ _⟩
  case round =>
    obtain ⟨k, rfl, hk, hoe, hon⟩ := hrel
    rename World => wr
    have HOE := Lib.hid hoe
    have HON := Lib.hid hon
    have hzr := hon.size
    have hkeep : Keeps w2 wr := hon.keeps HK23.out (by have := HGE.out; omega)
    have HK := Lib.hid hkeep
    have hbr := hon.below (B := w.heap.size) hgw (by have := HB3.out.size; omega)
    have HBr := Lib.hid (HB3.out.trans hbr)
    clear hoe hon hkeep hbr HMD
    by_cases hkm : k < m
    · obtain ⟨ad, x, rfl, hx, -, hcx⟩ := (HNP.out.keep HK.out).at_ hkm
      obtain ⟨t, rfl, ht1, hte⟩ := HTO.out k x hx
      have hlq := HL.out.below HBr.out (Nat.le_refl _)
      obtain ⟨ad', s, e, hs, -, hcs⟩ := hlq.sets.at_ hkm
      subst e
      have hed := hte s hs
      obtain ⟨ev, hev⟩ : ∃ ev, ev = edM cs n l s t := ⟨_, rfl⟩
      have HE := Lib.hid (edge_any A q c mm cs n (some ad') m cS U nu cU l s t wr.drew (hlq.below (Below.refl _ wr).drew (Nat.le_refl _)) (List.mem_of_getElem? hs) ht1)
      unfold lvV eV at HE
      rw [← hev] at HE hed
      have hst := edsP_set hed
      have hpl := edsP_len (cs := cs) (n := n) (l := l) (k := k) (by omega)
      rw [hel] at hpl
      have HST := Lib.hid hst
      obtain ⟨o0, ho0⟩ : ∃ o, (edsP cs n l k)[k]? = some o := ⟨_, List.getElem?_eq_getElem (by omega)⟩
      have HO0 := Lib.hid ho0
      have hxr := HX2.out.keep HK.out
      have x0 : wr.cell? ⟨w.heap.size, 0, none⟩ = some (.slice A q c) := hxr 0 _ rfl
      have x1 : wr.cell? ⟨w.heap.size, 1, none⟩ = some (.int .i64 mm) := hxr 1 _ rfl
      have x2 : wr.cell? ⟨w.heap.size, 2, none⟩ = some (.int .i64 n) := hxr 2 _ rfl
      have x3 : wr.cell? ⟨w.heap.size, 3, none⟩ = some (.slice (some ad') m cS) := hxr 3 _ rfl
      have x4 : wr.cell? ⟨w.heap.size, 4, none⟩ = some (.slice U nu cU) := hxr 4 _ rfl
      have hwg2 : w.heap.size ≠ ge := by
        have := block_lt (HX2.out 0 _ rfl)
        have := HGE.out
        dsimp only at *
        omega
      have hadb : (ad'.add k).block ≠ ge := by
        obtain ⟨ad2, s2, e2, -, -, hc2⟩ := HL.out.sets.at_ hkm
        injection e2 with e2
        subst e2
        have := block_lt hc2
        omega
      have k0 : (0 : Int) ≤ (k : Int) := by omega
      have k1 : (k : Int) < (m : Int) := by omega
      clear hx hte hed hst hev hlq hs ho0 hxr
      go_wp2_with fail
      refine wp_region_held_drew (S := fun W => W.cell? ⟨w.heap.size, 0, none⟩ = some (.slice A q c) ∧ W.cell? ⟨w.heap.size, 1, none⟩ = some (.int .i64 mm) ∧ W.cell? ⟨w.heap.size, 2, none⟩ = some (.int .i64 n) ∧ W.cell? ⟨w.heap.size, 3, none⟩ = some (.slice (some ad') m cS) ∧ W.cell? ⟨w.heap.size, 4, none⟩ = some (.slice U nu cU) ∧ W.cell? (ad'.add k) = some (.int .i64 s)) (by kernel_rfl) ⟨x0, x1, x2, x3, x4, hcs⟩ (fun hHeld => ?_)
      refine wpAnyH_take (i := 0) (v := ?va0) rfl (by kernel_rfl) (by kernel_rfl) (by kernel_rfl) (fun _ _ _ h => h) (Or.inl ⟨by rfl, ?ya0⟩) hHeld ?ra0
      case ya0 => (intro W hW; obtain ⟨hW0, hW1, hW2, hW3, hW4, hWs⟩ := hW; go_simp; first | done | with_reducible rfl)
      try simp only [List.getElem_toArray, List.getElem_cons_zero, Act.put, List.setIfInBounds_toArray, List.set_cons_zero, List.set_cons_succ]
      refine wpAnyH_take (i := 1) (v := ?va1) rfl (by kernel_rfl) (by kernel_rfl) (by kernel_rfl) (fun _ _ _ h => h) (Or.inl ⟨by rfl, ?ya1⟩) hHeld ?ra1
      case ya1 => (intro W hW; obtain ⟨hW0, hW1, hW2, hW3, hW4, hWs⟩ := hW; go_simp; first | done | with_reducible rfl)
      try simp only [List.getElem_toArray, List.getElem_cons_succ, List.getElem_cons_zero, Act.put, List.setIfInBounds_toArray, List.set_cons_zero, List.set_cons_succ]
      refine wpAnyH_take (i := 2) (v := ?va2) rfl (by kernel_rfl) (by kernel_rfl) (by kernel_rfl) (fun _ _ _ h => h) (Or.inl ⟨by rfl, ?ya2⟩) hHeld ?ra2
      case ya2 => (intro W hW; obtain ⟨hW0, hW1, hW2, hW3, hW4, hWs⟩ := hW; go_simp; first | done | with_reducible rfl)
      try simp only [List.getElem_toArray, List.getElem_cons_succ, List.getElem_cons_zero, Act.put, List.setIfInBounds_toArray, List.set_cons_zero, List.set_cons_succ]
      refine wpAnyH_take (i := 3) (v := ?va3) rfl (by kernel_rfl) (by kernel_rfl) (by kernel_rfl) (fun _ _ _ h => h) (Or.inl ⟨by rfl, ?ya3⟩) hHeld ?ra3
      case ya3 => (intro W hW; obtain ⟨hW0, hW1, hW2, hW3, hW4, hWs⟩ := hW; go_simp; first | done | with_reducible rfl)
      try simp only [List.getElem_toArray, List.getElem_cons_succ, List.getElem_cons_zero, Act.put, List.setIfInBounds_toArray, List.set_cons_zero, List.set_cons_succ]
      refine wpAnyH_take (i := 4) (v := ?va4) rfl (by kernel_rfl) (by kernel_rfl) (by kernel_rfl) (fun _ _ _ h => h) (Or.inl ⟨by rfl, ?ya4⟩) hHeld ?ra4
      case ya4 => (intro W hW; obtain ⟨hW0, hW1, hW2, hW3, hW4, hWs⟩ := hW; go_simp; first | done | with_reducible rfl)
      try simp only [List.getElem_toArray, List.getElem_cons_succ, List.getElem_cons_zero, Act.put, List.setIfInBounds_toArray, List.set_cons_zero, List.set_cons_succ]
      refine wpAnyH_take (i := 5) (v := ?va5) rfl (by kernel_rfl) (by kernel_rfl) (by kernel_rfl) (fun _ _ _ h => h) (Or.inl ⟨by rfl, ?ya5⟩) hHeld ?ra5
      case ya5 => (intro W hW; obtain ⟨hW0, hW1, hW2, hW3, hW4, hWs⟩ := hW; go_simp; first | done | with_reducible rfl)
      try simp only [List.getElem_toArray, List.getElem_cons_succ, List.getElem_cons_zero, Act.put, List.setIfInBounds_toArray, List.set_cons_zero, List.set_cons_succ]
      refine wpAnyH_take (i := 6) (v := ?va6) rfl (by kernel_rfl) (by kernel_rfl) (by kernel_rfl) (fun _ _ _ h => h) (Or.inl ⟨by rfl, ?ya6⟩) hHeld ?ra6
      case ya6 => (intro W hW; obtain ⟨hW0, hW1, hW2, hW3, hW4, hWs⟩ := hW; go_simp; first | done | with_reducible rfl)
      try simp only [List.getElem_toArray, List.getElem_cons_succ, List.getElem_cons_zero, Act.put, List.setIfInBounds_toArray, List.set_cons_zero, List.set_cons_succ]
      refine wpAnyH_take (i := 7) (v := ?va7) rfl (by kernel_rfl) (by kernel_rfl) (by kernel_rfl) (fun _ _ _ h => h) (Or.inl ⟨by rfl, ?ya7⟩) hHeld ?ra7
      case ya7 => (intro W hW; obtain ⟨hW0, hW1, hW2, hW3, hW4, hWs⟩ := hW; go_simp; first | done | with_reducible rfl)
      try simp only [List.getElem_toArray, List.getElem_cons_succ, List.getElem_cons_zero, Act.put, List.setIfInBounds_toArray, List.set_cons_zero, List.set_cons_succ]
      refine wpAnyH_take (i := 8) (v := ?va8) rfl (by kernel_rfl) (by kernel_rfl) (by kernel_rfl) (fun _ _ _ h => h) (Or.inl ⟨by rfl, ?ya8⟩) hHeld ?ra8
      case ya8 => (intro W hW; obtain ⟨hW0, hW1, hW2, hW3, hW4, hWs⟩ := hW; go_simp; first | done | with_reducible rfl)
      try simp only [List.getElem_toArray, List.getElem_cons_succ, List.getElem_cons_zero, Act.put, List.setIfInBounds_toArray, List.set_cons_zero, List.set_cons_succ]
      refine wpAnyH_ready (rs := [9]) (by kernel_rfl) (by simp) ?_
      refine AllReadyH.cons rfl (fun K hK => ?_) (AllReadyH.nil)
      go_simp
      refine HE.out.mono ?_
      rintro e w4 ⟨rfl, hb4⟩
      have k4 := Keeps.of_below hb4
      have HB4 := Lib.hid hb4
      have ho4 := (show OwnE wr.drew ge (edsP cs n l k) from HOE.out).below hb4 HOE.out.lt
      have HO4 := Lib.hid ho4
      obtain ⟨c0, c1, c2⟩ := ho4.cells HO0.out
      have f0 := Own.frozen ho4 (k * 3)
      have f1 := Own.frozen ho4 (k * 3 + 1)
      have f2 := Own.frozen ho4 (k * 3 + 2)
      clear ho4 hb4
      refine hK.out _ _ (⟨k4 _ _ x0, k4 _ _ x1, k4 _ _ x2, k4 _ _ x3, k4 _ _ x4, k4 _ _ hcs⟩) (fun hHeld => ?_)
      clear hK K
      try simp only [List.getElem_toArray, List.getElem_cons_succ, List.getElem_cons_zero, Act.put, List.setIfInBounds_toArray, List.set_cons_zero, List.set_cons_succ]
      refine wpAnyH_take (i := 10) (v := ?va10) rfl (by kernel_rfl) (by kernel_rfl) (by kernel_rfl) (fun _ _ _ h => h) (Or.inl ⟨by rfl, ?ya10⟩) hHeld ?ra10
      case ya10 => (intro W hW; obtain ⟨hW0, hW1, hW2, hW3, hW4, hWs⟩ := hW; go_simp; first | done | with_reducible rfl)
      try simp only [List.getElem_toArray, List.getElem_cons_succ, List.getElem_cons_zero, Act.put, List.setIfInBounds_toArray, List.set_cons_zero, List.set_cons_succ]
      have kb : ∀ p : Addr, p.block ≠ ge → (((w4.setCell ⟨ge, k * 3, none⟩ (.int .i64 ev.s)).setCell ⟨ge, k * 3 + 1, none⟩ (.int .i64 ev.p)).setCell ⟨ge, k * 3 + 2, none⟩ (.bool ev.sc)).cell? p = w4.cell? p := fun p hp =>
        World.cell?_of_block (((Below.heap_setCell _ _ _ _ hp).trans (Below.heap_setCell _ _ _ _ hp)).trans (Below.heap_setCell _ _ _ _ hp))
      refine wpAnyH_ready (rs := [11]) (by kernel_rfl) (by simp) ?_
      refine AllReadyH.cons rfl (fun K hK => ?_) (AllReadyH.nil)
      go_simp
      refine hK.out _ _ (by rw [kb _ hwg2, kb _ hwg2, kb _ hwg2, kb _ hwg2, kb _ hwg2, kb _ hadb]; exact hHeld) (fun hHeld => ?_)
      clear hK K
      try simp only [List.getElem_toArray, List.getElem_cons_succ, List.getElem_cons_zero, Act.put, List.setIfInBounds_toArray, List.set_cons_zero, List.set_cons_succ]
      refine wpAnyH_done (by kernel_rfl) ?_ _
      have ho5 := HO4.out.set_ ev (show k < (edsP cs n l k).length by omega)
      rw [HST.out] at ho5
      have hon5 := ((((HON.out.trans (Only.of_below (Below.refl wr.heap.size wr).drew)).trans (Only.of_below HB4.out)).setCell (k * 3) (.int .i64 ev.s)).setCell (k * 3 + 1) (.int .i64 ev.p)).setCell (k * 3 + 2) (.bool ev.sc)
      have HO5 := Lib.hid ho5
      have HN5 := Lib.hid hon5
      clear ho5 hon5 kb hHeld
      go_wp2
      go_roundw
      case rel => exact ⟨k + 1, by go_num, by omega, HO5.out, HN5.out⟩
      case measure => simp [intOf]; omega
    · obtain rfl : k = m := by omega
      have ho := HOE.out
      rw [show edsP cs n l k = edsM cs n l by rw [← hel]; exact edsP_all cs n l] at ho
      have HO := Lib.hid ho
      clear ho
      go_wp2
      go_ret
      exact ⟨ge, rfl, HO.out, hgw, HBr.out⟩
end Go.Proofs.YtjllmladhjbnaaaGreatDoor
/- Package sorts: Plan. -/
namespace Go.Proofs.YtjllmladhjbnaaaGreatDoor
open Go.RowKit Go.Shelf
attribute [local go_sem] Oper.semAt_some
/-- The plan, of the first levels alone. -/
def planTo (cs : List Int) (n : Int) (k : Nat) : List Ed := topE cs.length :: (List.range k).flatMap fun t => edsM cs n (cs.length - 1 - t)
theorem planTo_succ (cs : List Int) (n : Int) (k : Nat) : planTo cs n (k + 1) = planTo cs n k ++ edsM cs n (cs.length - 1 - k) := by
  simp [planTo, List.range_succ]
theorem planTo_all (cs : List Int) (n : Int) : planTo cs n cs.length = planM cs n := rfl
theorem planTo_len {cs : List Int} {n : Int} (g : Good cs n) : ∀ k, k ≤ cs.length → (planTo cs n k).length ≤ 1 + 6 * k
  | 0, _ => by simp [planTo]
  | k + 1, h => by
    have := planTo_len g k (by omega)
    have hd := g.d1
    have h2 := edsM_len g (l := cs.length - 1 - k) (by omega)
    have h3 := (lev_len _ g.d1 g.d4 (cs.length - 1 - k) (by omega)).2.1
    rw [planTo_succ, List.length_append]
    omega
theorem lvsL_at {d t : Nat} (h : t ≤ d) : (lvsL d)[t]? = some (levL d (d - t)) := by
  unfold lvsL
  rw [List.getElem?_map, List.getElem?_range (by omega)]; rfl
theorem lev_top : ∀ d, 1 ≤ d → d ≤ 4 → levL d d = [fullB d] := by
  intro d h1 h2
  rcases (by omega : d = 1 ∨ d = 2 ∨ d = 3 ∨ d = 4) with rfl | rfl | rfl | rfl <;> decide +kernel
set_option maxRecDepth 100000 in
set_option maxHeartbeats 8000000 in
theorem plan_any (A : Option Addr) (q c mm : Nat) (cs : List Int) (n : Int) (w : World) (h : FQ w A q mm cs n) (hck : checkB cs (mm : Int) = true) :
    Calls Tryz.prog 8 #[.agg #[.slice A q c, .int .i64 mm], .int .i64 n] w fun e w' => ∃ v, e = .returned v ∧ OE w.heap.size w' v (planM cs n) ∧ Below w.heap.size w w' := by
  have hcl := h.len
  have hg := h.good
  have q1 := h.q1
  have q4 := h.q4
  obtain ⟨w0, hw0⟩ : ∃ w0, w0 = w.alloc (.cells #[.slice A q c, .int .i64 mm] 25) := ⟨_, rfl⟩
  have hb0 : Below w.heap.size w w0 := by rw [hw0]; exact below_box w _
  have hbx : Bx w0 w.heap.size #[.slice A q c, .int .i64 mm] := by rw [hw0]; exact Bx.new _ _ _
  have h0 := h.below hb0 (Nat.le_refl _)
  have HP := Lib.hid (proper_any' A q c mm cs n w0 h0 hck)
  have HF := Lib.hid h
  have HB0 := Lib.hid hb0
  have HX0 := Lib.hid hbx
  have HW0 := Lib.hid hw0
  clear h hb0 hbx h0 hck hw0
  go_enter Tryz.func8, Tryz.ntmps8
  go_wp2_with fail
  rw [← HW0.out]
  refine HP.out.mono ?_
  rintro e w1 ⟨rfl, hb1⟩
  have hz0 := HB0.out.size
  have hb1w := HB0.out.trans (hb1.mono hz0)
  have hf1 := HF.out.below hb1w (Nat.le_refl _)
  have HLV := Lib.hid (levels_any q w1 q1 q4 hf1.tab hf1.w1)
  have hx1 := HX0.out.keep (Keeps.of_below hb1)
  have HX1 := Lib.hid hx1
  have HB1 := Lib.hid hb1w
  have x0 : w1.cell? ⟨w.heap.size, 0, none⟩ = some (.slice A q c) := hx1 0 _ rfl
  clear hb1 hb1w hf1 hx1
  go_wp2_with fail
  refine HLV.out.mono ?_
  rintro e w2 ⟨gl, us, rfl, hom, hb2⟩
  have hbw2 := HB1.out.trans (hb2.mono HB1.out.size)
  have HB2 := Lib.hid hbw2
  have HX2 := Lib.hid (HX1.out.keep (Keeps.of_below hb2))
  obtain ⟨A', c', ev, hmat⟩ := hom.mat
  have hll : (lvsL q).length = q + 1 := by simp [lvsL]
  rw [hll] at ev hmat
  injection ev with ev e8 e9
  subst ev
  clear e8 e9
  have HMT := Lib.hid hmat
  obtain ⟨ad, r, B, d, e1, hr, hcr, hnr⟩ := hmat.at_ (k := 0) (by omega)
  injection e1 with e1
  subst e1
  rw [lvsL_at (Nat.zero_le _)] at hr
  injection hr with hr
  rw [Nat.sub_zero, lev_top q q1 q4] at hr
  subst hr
  obtain ⟨ad2, xx, e2, hxx, -, hcx⟩ := hnr.at_ (k := 0) (by simp)
  subst e2
  simp at hxx
  subst hxx
  rw [add0] at hcr
  rw [add0'] at hcx
  have hlit := OE.lit w2 w2.heap.size (topE q) (Nat.le_refl _)
  obtain ⟨w3, hw3⟩ : ∃ w3, w3 = w2.alloc (.cells #[.int .i64 (fullB q), .int .i64 (-1), .bool false] 42) := ⟨_, rfl⟩
  have hlit2 : OE w2.heap.size w3 (.slice (some ⟨w2.heap.size, 0, none⟩) 1 1) (planTo cs n 0) := by
    rw [hw3]
    have : planTo cs n 0 = [topE q] := by rw [← hcl]; rfl
    rw [this]
    exact hlit
  have HLT := Lib.hid hlit2
  have hb23 : Below w2.heap.size w2 w3 := by rw [hw3]; exact below_box w2 _
  have HB23 := Lib.hid hb23
  have HW3 := Lib.hid hw3
  have hqw : (1 : Int) ≤ ((q + 1 : Nat) : Int) := by omega
  clear hb2 hom hmat hnr hlit hlit2 hb23 hw3 hbw2 x0 HX1 HB1 hll
  go_wp2_with fail
  rw [← HW3.out]
  go_loopw [6, 28] (fun p i wr => ∃ k : Nat, i = .int .i64 k ∧ k ≤ q ∧ OE w2.heap.size wr p (planTo cs n k) ∧ Below w2.heap.size w2 wr) (fun _ i _ => q - (intOf i).toNat)
  case atStart => exact ⟨0, rfl, Nat.zero_le _, HLT.out, HB23.out⟩
  case round =>
    obtain ⟨k, rfl, hk, hoe, hb⟩ := hrel
    rename World => wr
    have HOE := Lib.hid hoe
    have HB := Lib.hid hb
    have hz := hb.size
    clear hoe hb HLT HB23 HW3 hcr hcx
    by_cases hkq : k < q
    · obtain ⟨l, hl⟩ : ∃ l, l = q - 1 - k := ⟨_, rfl⟩
      have hmr := HMT.out.keep (Keeps.of_below HB.out)
      obtain ⟨ad, r, B, d1, e1, hr, hcr, hnr⟩ := hmr.at_ (k := k) (by omega)
      injection e1 with e1
      subst e1
      rw [lvsL_at (by omega), show q - k = l + 1 by omega] at hr
      injection hr with hr
      subst hr
      obtain ⟨ad, r, B2, d2, e1, hr, hcr2, hnr2⟩ := hmr.at_ (k := k + 1) (by omega)
      injection e1 with e1
      subst e1
      rw [lvsL_at (by omega), show q - (k + 1) = l by omega] at hr
      injection hr with hr
      subst hr
      rw [add0] at hcr hcr2
      obtain ⟨nu, hnu⟩ : ∃ nu, nu = (levL q (l + 1)).length := ⟨_, rfl⟩
      obtain ⟨m, hm⟩ : ∃ m, m = (levL q l).length := ⟨_, rfl⟩
      rw [← hnu] at hcr hnr
      rw [← hm] at hcr2 hnr2
      have hbw := HB2.out.trans (HB.out.mono HB2.out.size)
      have hlq : LQ wr A q mm cs n B2 m B nu l := ⟨HF.out.below hbw (Nat.le_refl _), by omega, hnr2, hnr⟩
      have HLQ := Lib.hid hlq
      have hxr := HX2.out.keep (Keeps.of_below HB.out)
      have x0 : wr.cell? ⟨w.heap.size, 0, none⟩ = some (.slice A q c) := hxr 0 _ rfl
      have x1 : wr.cell? ⟨w.heap.size, 1, none⟩ = some (.int .i64 mm) := hxr 1 _ rfl
      have k0 : (0 : Int) ≤ (k : Int) := by omega
      have k1 : (k : Int) < (q : Int) := by omega
      have k2 : (k : Int) < ((q + 1 : Nat) : Int) := by omega
      have k3 : (k : Int) < (q : Int) + 1 := by omega
      have hs := planTo_succ cs n k
      rw [hcl, ← hl] at hs
      have HS := Lib.hid hs
      have hpl := planTo_len hg k (by omega)
      have hel := edsM_len hg (l := l) (by omega)
      rw [hcl, ← hm] at hel
      have hm6 := (lev_len q q1 q4 l (by omega)).2.1
      rw [← hm] at hm6
      have hcr3 : wr.cell? ⟨gl, 1 + k, none⟩ = some (.slice B2 m d2) := by rw [Nat.add_comm]; exact hcr2
      clear hmr hnr hnr2 hnu hm hlq hxr hs hl hcr2 hbw
      go_wp2_with fail
      have hal : Keeps wr.drew (wr.drew.alloc (.cells #[.slice none 0 0, .int .i64 0, .int .i64 0, .slice none 0 0, .slice none 0 0] 52)) := Keeps.of_below (below_box _ _)
      refine wp_region_held_drew (S := fun W => W.cell? ⟨w.heap.size, 0, none⟩ = some (.slice A q c) ∧ W.cell? ⟨w.heap.size, 1, none⟩ = some (.int .i64 mm) ∧ W.cell? ⟨gl, k, none⟩ = some (.slice B nu d1)) (by kernel_rfl) ⟨x0, x1, hcr⟩ (fun hHeld => ?_)
      refine wpAnyH_take (i := 0) (v := ?va0) rfl (by kernel_rfl) (by kernel_rfl) (by kernel_rfl) (fun _ _ _ h => h) (Or.inl ⟨by rfl, ?ya0⟩) hHeld ?ra0
      case ya0 => (intro W hW; obtain ⟨hW0, hW1, hW2⟩ := hW; go_simp; first | done | with_reducible rfl)
      try simp only [List.getElem_toArray, List.getElem_cons_zero, Act.put, List.setIfInBounds_toArray, List.set_cons_zero, List.set_cons_succ]
      refine wpAnyH_take (i := 1) (v := ?va1) rfl (by kernel_rfl) (by kernel_rfl) (by kernel_rfl) (fun _ _ _ h => h) (Or.inl ⟨by rfl, ?ya1⟩) hHeld ?ra1
      case ya1 => (intro W hW; obtain ⟨hW0, hW1, hW2⟩ := hW; go_simp; first | done | with_reducible rfl)
      try simp only [List.getElem_toArray, List.getElem_cons_succ, List.getElem_cons_zero, Act.put, List.setIfInBounds_toArray, List.set_cons_zero, List.set_cons_succ]
      refine wpAnyH_take (i := 2) (v := ?va2) rfl (by kernel_rfl) (by kernel_rfl) (by kernel_rfl) (fun _ _ _ h => h) (Or.inl ⟨by rfl, ?ya2⟩) hHeld ?ra2
      case ya2 => (intro W hW; obtain ⟨hW0, hW1, hW2⟩ := hW; go_simp; first | done | with_reducible rfl)
      try simp only [List.getElem_toArray, List.getElem_cons_succ, List.getElem_cons_zero, Act.put, List.setIfInBounds_toArray, List.set_cons_zero, List.set_cons_succ]
      refine wpAnyH_take (i := 3) (v := ?va3) rfl (by kernel_rfl) (by kernel_rfl) (by kernel_rfl) (fun _ _ _ h => h) (Or.inl ⟨by rfl, ?ya3⟩) hHeld ?ra3
      case ya3 => (intro W hW; obtain ⟨hW0, hW1, hW2⟩ := hW; go_simp; first | done | with_reducible rfl)
      try simp only [List.getElem_toArray, List.getElem_cons_succ, List.getElem_cons_zero, Act.put, List.setIfInBounds_toArray, List.set_cons_zero, List.set_cons_succ]
      refine wpAnyH_take (i := 4) (v := ?va4) rfl (by kernel_rfl) (by kernel_rfl) (by kernel_rfl) (fun _ _ _ h => h) (Or.inl ⟨by rfl, ?ya4⟩) hHeld ?ra4
      case ya4 => (intro W hW; obtain ⟨hW0, hW1, hW2⟩ := hW; go_simp; first | done | with_reducible rfl)
      try simp only [List.getElem_toArray, List.getElem_cons_succ, List.getElem_cons_zero, Act.put, List.setIfInBounds_toArray, List.set_cons_zero, List.set_cons_succ]
      refine wpAnyH_take (i := 5) (v := ?va5) rfl (by kernel_rfl) (by kernel_rfl) (by kernel_rfl) (fun _ _ _ h => h) (Or.inl ⟨by rfl, ?ya5⟩) hHeld ?ra5
      case ya5 => (intro W hW; obtain ⟨hW0, hW1, hW2⟩ := hW; go_simp; first | done | with_reducible rfl)
      try simp only [List.getElem_toArray, List.getElem_cons_succ, List.getElem_cons_zero, Act.put, List.setIfInBounds_toArray, List.set_cons_zero, List.set_cons_succ]
      refine wpAnyH_take (i := 6) (v := ?va6) rfl (by kernel_rfl) (by kernel_rfl) (by kernel_rfl) (fun _ _ _ h => h) (Or.inl ⟨by rfl, ?ya6⟩) hHeld ?ra6
      case ya6 => (intro W hW; obtain ⟨hW0, hW1, hW2⟩ := hW; go_simp; first | done | with_reducible rfl)
      try simp only [List.getElem_toArray, List.getElem_cons_succ, List.getElem_cons_zero, Act.put, List.setIfInBounds_toArray, List.set_cons_zero, List.set_cons_succ]
      refine wpAnyH_take (i := 7) (v := ?va7) rfl (by kernel_rfl) (by kernel_rfl) (by kernel_rfl) (fun _ _ _ h => h) (Or.inl ⟨by rfl, ?ya7⟩) hHeld ?ra7
      case ya7 => (intro W hW; obtain ⟨hW0, hW1, hW2⟩ := hW; go_simp; first | done | with_reducible rfl)
      try simp only [List.getElem_toArray, List.getElem_cons_succ, List.getElem_cons_zero, Act.put, List.setIfInBounds_toArray, List.set_cons_zero, List.set_cons_succ]
      refine wpAnyH_take (i := 8) (v := ?va8) rfl (by kernel_rfl) (by kernel_rfl) (by kernel_rfl) (fun _ _ _ h => h) (Or.inl ⟨by rfl, ?ya8⟩) hHeld ?ra8
      case ya8 => (intro W hW; obtain ⟨hW0, hW1, hW2⟩ := hW; go_simp; first | done | with_reducible rfl)
      try simp only [List.getElem_toArray, List.getElem_cons_succ, List.getElem_cons_zero, Act.put, List.setIfInBounds_toArray, List.set_cons_zero, List.set_cons_succ]
      refine wpAnyH_ready (rs := [9]) (by kernel_rfl) (by simp) ?_
      refine AllReadyH.cons rfl (fun K hK => ?_) (AllReadyH.nil)
      go_simp
      refine hK.out _ _ (⟨hal _ _ x0, hal _ _ x1, hal _ _ hcr⟩) (fun hHeld => ?_)
      clear hK K
      try simp only [List.getElem_toArray, List.getElem_cons_succ, List.getElem_cons_zero, Act.put, List.setIfInBounds_toArray, List.set_cons_zero, List.set_cons_succ]
      have hal2 : Keeps wr (wr.alloc (.cells #[.slice A q c, .int .i64 mm, .int .i64 n, .slice B2 m d2, .slice B nu d1] 52)).drew := Keeps.of_below (below_box wr _).drew
      refine wpAnyH_ready (rs := [10]) (by kernel_rfl) (by simp) ?_
      refine AllReadyH.cons rfl (fun K hK => ?_) (AllReadyH.nil)
      go_simp
      refine hK.out _ _ (⟨hal2 _ _ x0, hal2 _ _ x1, hal2 _ _ hcr⟩) (fun hHeld => ?_)
      clear hK K
      try simp only [List.getElem_toArray, List.getElem_cons_succ, List.getElem_cons_zero, Act.put, List.setIfInBounds_toArray, List.set_cons_zero, List.set_cons_succ]
      refine wpAnyH_done (by kernel_rfl) ?_ _
      obtain ⟨w5, hw5⟩ : ∃ w5, w5 = (wr.alloc (.cells #[.slice A q c, .int .i64 mm, .int .i64 n, .slice B2 m d2, .slice B nu d1] 52)).drew := ⟨_, rfl⟩
      have hb5 : Below wr.heap.size wr w5 := by rw [hw5]; exact (below_box wr _).drew
      have HE := Lib.hid (edges_any A q c mm cs n B2 m d2 B nu d1 l w5 (HLQ.out.below hb5 (Nat.le_refl _)))
      unfold lvV at HE
      have HW5 := Lib.hid hw5
      have HB5 := Lib.hid hb5
      have hz5 := hb5.size
      clear hal hal2 hHeld hw5 hb5 hcr hcr3 x0 x1
      go_wp2_with fail
      rw [← HW5.out]
      refine HE.out.mono ?_
      rintro e w6 ⟨ge, rfl, hoE, -, hb6⟩
      have hb56 := HB5.out.trans (hb6.mono hz5)
      obtain ⟨v', w7, hrun, hoe7, hb7⟩ := oe_append (c := m) (HOE.out.below hb56) hoE hel (by omega) (by have := hb56.size; omega)
      rw [← HS.out] at hoe7
      have HB7 := Lib.hid ((HB.out.trans (hb56.mono hz)).trans hb7)
      have HO7 := Lib.hid hoe7
      have Hrun := Lib.hid hrun
      clear hoE hb6 hb56 hrun hoe7 hb7 HE
      go_wp2_with (at_builtin; have _t := Hrun; refine wpList_append_eq rfl (.tmp 42) (.tmp 44) 30 rfl _ _ _ _ rfl rfl Hrun.out ?_; clear _t Hrun)
      go_roundw
      case rel => exact ⟨k + 1, by go_num, by omega, HO7.out, HB7.out⟩
      case measure => simp [intOf]; omega
    · obtain rfl : k = q := by omega
      have ho := HOE.out
      rw [← hcl, planTo_all] at ho
      have HO := Lib.hid (ho.mono HB2.out.size)
      have HBf := Lib.hid (HB2.out.trans (HB.out.mono HB2.out.size))
      clear ho
      go_wp2
      go_ret
      exact ⟨_, rfl, HO.out, HBf.out⟩
end Go.Proofs.YtjllmladhjbnaaaGreatDoor
