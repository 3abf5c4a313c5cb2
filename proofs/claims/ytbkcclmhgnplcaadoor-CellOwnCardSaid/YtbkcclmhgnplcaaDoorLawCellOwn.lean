/- The law CellOwn. -/
import Derived.Test.YtbkcclmhgnplcaaDoorRfacts
namespace Go.Proofs.YtbkcclmhgnplcaaDoor
open Go.RowKit Go.Shelf
/-- A row of cells of the call's own, whatever they hold. -/
def GRe (B : Nat) (X : World) (v : Value) (us : List V5) : Prop := X.ownsRow B 33 5 v us.length (flatV us) ∧ ∀ u ∈ us, ∃ x, OwnC B X u x
theorem GRs.e {B : Nat} {X : World} {v : Value} {us : List V5} {J : List Cel} (h : GRs B X v us J) : GRe B X v us := ⟨h.1, fun u hu => by
  obtain ⟨i, hi⟩ := List.getElem?_of_mem hu
  have hl := (List.getElem?_eq_some_iff.1 hi).1
  obtain ⟨x, hx⟩ : ∃ x, J[i]? = some x := ⟨_, List.getElem?_eq_getElem (by rw [← h.len]; exact hl)⟩
  exact ⟨x, h.2.2 i u x hi hx⟩⟩
theorem GRe.below {B : Nat} {X Y : World} {v : Value} {us : List V5} (h : GRe B X v us) (hb : Below X.heap.size X Y) : GRe B Y v us := ⟨own_below h.1 hb (Nat.le_refl _), fun u hu => by
  obtain ⟨x, hx⟩ := h.2 u hu
  exact ⟨x, hx.stay fun o => o.below hb⟩⟩
theorem OI.write {B g : Nat} (k : Nat) {W : World} {v : Value} {xs : List Int} {y : Int} (h : OI B W v xs) (hy : inK .i64 y) : ∃ xs', xs'.length = xs.length ∧ OI B (W.setCell ⟨g, k, none⟩ (.int .i64 y)) v xs' := by
  by_cases hne : v.ownBlock = some g
  · rcases h.1.2 with ⟨e, -⟩ | ⟨g', cap, -, e, -⟩
    · rw [e] at hne; cases hne
    · have h' := h
      rw [e] at hne h' ⊢
      injection hne with hne
      subst hne
      exact ⟨xs.set k y, by simp, h'.put y hy⟩
  · exact ⟨xs, rfl, h.other _ hne⟩
theorem OwnC.write {B g : Nat} (k : Nat) {W : World} {u : V5} {x : Cel} {y : Int} (h : OwnC B W u x) (hy : inK .i64 y) : ∃ x', OwnC B (W.setCell ⟨g, k, none⟩ (.int .i64 y)) u x' := by
  obtain ⟨h1, ⟨a, b, c, d⟩, h3⟩ := h
  obtain ⟨a', -, oa⟩ := a.write (g := g) k hy
  obtain ⟨b', -, ob⟩ := b.write (g := g) k hy
  obtain ⟨c', -, oc⟩ := c.write (g := g) k hy
  obtain ⟨d', -, od⟩ := d.write (g := g) k hy
  exact ⟨⟨a', x.cnt, b', c', d'⟩, h1, ⟨oa, ob, oc, od⟩, h3⟩
/-- A number is written into one of the cells' own slices. -/
theorem GRe.write {B g : Nat} (k : Nat) {W : World} {v t : Value} {us : List V5} {ys : List Int} {y : Int} (h : GRe B W v us) (ht : OI B W t ys) (hg : t.ownBlock = some g) (hy : inK .i64 y) : GRe B (W.setCell ⟨g, k, none⟩ (.int .i64 y)) v us :=
  ⟨own_stay h.1 fun j hj => Below.heap_setCell _ _ _ _ (fun e => by
    rcases own_apart ht.1 h.1 (by decide) with h0 | h0
    · rw [h0] at hg; cases hg
    · exact h0 (by rw [hg, hj, e])), fun u hu => by
    obtain ⟨x, hx⟩ := h.2 u hu
    exact hx.write k hy⟩
theorem flatV_cnt : ∀ (us : List V5) (i : Nat) (u : V5) (z : Value), us[i]? = some u → (flatV us).set (i * 5 + 1) z = flatV (us.set i ⟨u.a, z, u.c, u.d, u.e⟩)
  | [], i, u, z, h => by simp at h
  | p :: t, 0, u, z, h => by
    simp only [List.getElem?_cons_zero, Option.some.injEq] at h
    subst h
    simp [flatV, V5.l]
  | p :: t, i + 1, u, z, h => by
    rw [List.set_cons_succ, flatV_cons, flatV_cons, ← flatV_cnt t i u z (by simpa using h), show (i + 1) * 5 + 1 = i * 5 + 1 + 1 + 1 + 1 + 1 + 1 by omega]
    simp only [List.set_cons_succ]
/-- A cell's count is written. -/
theorem GRe.cnt {B g c i : Nat} {W : World} {us : List V5} {u : V5} {y : Int} (h : GRe B W (.slice (some ⟨g, 0, none⟩) us.length c) us) (hu : us[i]? = some u) (hy : inK .i64 y) : GRe B (W.setCell ⟨g, i * 5 + 1, none⟩ (.int .i64 y)) (.slice (some ⟨g, 0, none⟩) us.length c) (us.set i ⟨u.a, .int .i64 y, u.c, u.d, u.e⟩) := by
  have s1 := (h.1.stored (i * 5 + 1) (.int .i64 y)).1
  rw [flatV_cnt us i u _ hu] at s1
  have stay : ∀ {w : Value} {xs : List Int}, OI B W w xs → OI B (W.setCell ⟨g, i * 5 + 1, none⟩ (.int .i64 y)) w xs := fun o => o.farC h.1 rfl
  refine ⟨by rw [List.length_set]; exact s1, fun q hq => ?_⟩
  rcases List.mem_or_eq_of_mem_set hq with h0 | h0
  · obtain ⟨x, hx⟩ := h.2 q h0
    exact ⟨x, hx.stay fun o => stay o⟩
  · obtain ⟨x, -, hx, -⟩ := h.2 u (List.mem_of_getElem? hu)
    subst h0
    exact ⟨⟨x.key, y, x.sum, x.mn, x.mx⟩, rfl, ⟨stay hx.key, stay hx.sum, stay hx.mn, stay hx.mx⟩, hy⟩
theorem GRe.cells {B c N : Nat} {P : Option Addr} {W : World} {us : List V5} (h : GRe B W (.slice P N c) us) : N = us.length ∧ (0 < N → ∃ g, P = some ⟨g, 0, none⟩ ∧ B ≤ g ∧ (∀ j, W.frozen? ⟨g, j, none⟩ = false) ∧ ∀ j u, (flatV us)[j]? = some u → W.cell? ⟨g, j, none⟩ = some u) := by
  have hN : N = us.length := by
    obtain ⟨P', c', e, -⟩ := own_form h.1
    injection e
  refine ⟨hN, fun hp => ?_⟩
  obtain ⟨P', c', e, -, -, hc⟩ := own_form h.1
  obtain ⟨g, rfl, h1, h2⟩ := hc (by omega)
  injection e with e1 _ _
  subst e1
  subst hN
  exact ⟨g, rfl, h1, fun j => World.ownsRow.frozenAt h.1 j, h2⟩
set_option maxRecDepth 100000 in
set_option maxHeartbeats 8000000 in
theorem cellOwn_walk (a0 : Int) (a1 : Option Addr) (len1 cap1 : Nat) (z1 : List Int) (a2 : Int) (a3 : Option Addr) (len3 cap3 : Nat) (z3 : List Int) (a4 : Int) (a5 : Int) (w : World) (h0 : inK .i64 a0) (w1 : IsRow .i64 w a1 len1 cap1 z1) (h2 : inK .i64 a2) (w3 : IsRow .i64 w a3 len3 cap3 z3) (h4 : inK .i64 a4) (h5 : inK .i64 a5) (hT : Tab w) (hw1 : 1 < w.heap.size) :
    Calls Tryd.prog 11 #[.int .i64 a0, .slice a1 len1 cap1, .int .i64 a2, .slice a3 len3 cap3, .int .i64 a4, .int .i64 a5] w fun e w' => e = .returned (.bool true) ∧ Below w.heap.size w w' := by
  obtain ⟨n1, lc1, cm1⟩ := w1.nums
  obtain ⟨n3, lc3, cm3⟩ := w3.nums
  have N1 := Lib.hid n1
  have N3 := Lib.hid n3
  have HKn := Lib.hid (known_any w hT hw1)
  have HT := Lib.hid hT
  clear w1 w3 n1 n3 hT
  go_enter Tryd.func11, Tryd.ntmps11
  go_wp2_with fail
  refine HKn.out.mono ?_
  rintro e w1 ⟨rfl, hb1⟩
  have Hb1 := Lib.hid hb1
  clear hb1 HKn
  go_wp2_with fail
  refine (Facts_res a0 a2 a1 a3 len1 cap1 len3 cap3 _ _ w1 (N1.out.keep (Keeps.of_below Hb1.out)) (N3.out.keep (Keeps.of_below Hb1.out)) (by omega) (by omega) h0 h2).mono ?_
  rintro e w2 ⟨A, c, D, d, C, q, mm, m, cs, l, rfl, hF⟩
  have F := Lib.hid hF
  obtain ⟨k1, k2, k3, k4⟩ : 1 ≤ q ∧ q ≤ 4 ∧ mm ≤ 2 ∧ m ≤ 40 := ⟨hF.q1, hF.q4, hF.m2, hF.m40⟩
  have hb2 : Below w.heap.size w w2 := Hb1.out.trans (hF.below.mono Hb1.out.size)
  have hb3 : Below w2.heap.size w2 (w2.alloc (.cells #[.slice A q c, .int .i64 mm] 25)) := (Below.refl _ _).alloc (Nat.le_refl _) _
  have hos : Own 25 (w2.alloc (.cells #[.slice A q c, .int .i64 mm] 25)) w2.heap.size [.slice A q c, .int .i64 mm] := heap_alloc_new w2 _
  obtain ⟨s1, s2, s3⟩ := set_bd a4 q k1 k2
  have Hb2 := Lib.hid hb2
  have Hb3 := Lib.hid hb3
  have OS3 := Lib.hid hos
  clear hF hb2 hb3 hos N1 N3
  go_wp2_with fail
  refine (set_any A q c mm a4 _ k1 k2 h4).mono ?_
  rintro e w4 ⟨rfl, rfl⟩
  obtain ⟨sa, hsa⟩ : ∃ sa, sa = a4 % 2 ^ q := ⟨_, rfl⟩
  rw [← hsa] at s1 s2 s3 ⊢
  have hst := fun W => set_any A q c mm a4 W k1 k2 h4
  simp only [← hsa] at hst
  have HST := Lib.hid hst
  clear hsa hst
  have hb4 : Below w2.heap.size w2 ((w2.alloc (.cells #[.slice A q c, .int .i64 mm] 25)).alloc (.cells #[.slice A q c, .int .i64 mm] 25)) := Hb3.out.alloc Hb3.out.size _
  have HB4 := Lib.hid hb4
  have OS4 := Lib.hid (OS3.out.alloc (.cells #[.slice A q c, .int .i64 mm] 25))
  clear hb4
  generalize (w2.alloc (.cells #[.slice A q c, .int .i64 mm] 25)).alloc (.cells #[.slice A q c, .int .i64 mm] 25) = w4 at HB4 OS4 ⊢
  have hl4 : ∀ r ∈ l, r.key.length = q ∧ r.m.length = mm := F.out.lens
  have HL4 := Lib.hid (fun r hr => (show r.key.length ≤ 4 ∧ r.m.length = mm from ⟨by rw [(hl4 r hr).1]; exact k2, (hl4 r hr).2⟩))
  have Hmk := Lib.hid (fun W (hW : Below w2.heap.size w2 W) => make_any D m d C sa l W (F.out.rows.below hW (Nat.le_refl _)) F.out.em k4 F.out.small (fun r hr => by have := hl4 r hr; omega) s1 s2)
  obtain ⟨L, hL⟩ : ∃ L, L = l.map (ofC sa) := ⟨_, rfl⟩
  have hLm : L.length = m := by rw [hL, List.length_map, F.out.em]
  have hLo : ∀ x ∈ L, EvenC mm x ∧ x.key.length ≤ 1000000 := by
    rw [hL]
    exact ofC_even (set := sa) HL4.out
  have HLo := Lib.hid hLo
  have HLm := Lib.hid hLm
  have HLL := Lib.hid hL
  rw [← hL] at Hmk
  have Hb24 := Lib.hid (Hb2.out.trans (HB4.out.mono Hb2.out.size))
  have GRP := Lib.hid (fun (P : Option Addr) (c N : Nat) (K : List Cel) (W : World) (hK : RowC W P N K) (he : ∀ x ∈ K, EvenC mm x ∧ x.key.length ≤ 1000000) (hN : N = K.length) (hn : N ≤ 60) => groupR_any P c N K mm W hK (fun x h => (he x h).1) (fun x h => (he x h).2) (by omega) hN hn)
  have HFA := Lib.hid (fun (set : Int) (W : World) (hW : Below w2.heap.size w2 W) (e1 : 0 ≤ set) (e2 : set ≤ 15) => rFacts_any D m d C mm set l W (F.out.rows.below hW (Nat.le_refl _)) F.out.em k4 F.out.small HL4.out (by omega) e1 e2)
  have HSM := Lib.hid (fun (P Q : Option Addr) (N c d : Nat) (K : List Cel) (W : World) (r1 : RowC W P N K) (r2 : RowC W Q N K) (hN : N = K.length) (he : ∀ x ∈ K, EvenC mm x ∧ x.key.length ≤ 1000000) (hn : N ≤ 1000000) => same_yes P Q N c d K W r1 r2 hN (fun x hx => by
    obtain ⟨⟨e1, e2, e3⟩, e4⟩ := he x hx
    omega) hn)
  clear hl4 hL hLm hLo
  go_wp2_with fail
  refine (Hmk.out _ HB4.out).mono ?_
  rintro e w5 ⟨lv, us, rfl, hg, hb5⟩
  obtain ⟨Pl, cl, fl, -⟩ := hg.form
  have hul := hg.len
  rw [HLm.out] at hul
  rw [hul] at fl
  subst fl
  have RL5 := Lib.hid hg.rowC.1
  have H25 := Lib.hid (HB4.out.trans (hb5.mono HB4.out.size))
  have H05 := Lib.hid (Hb24.out.trans (hb5.mono Hb24.out.size))
  clear hg hb5 hul OS3 OS4
  go_wp2_with fail
  refine (Hmk.out _ H25.out).mono ?_
  rintro e w6 ⟨mv, um, rfl, hg, hb6⟩
  obtain ⟨Pm, cm, fm, -⟩ := hg.form
  have hul := hg.len
  rw [HLm.out] at hul
  rw [hul] at fm
  subst fm
  have RL := Lib.hid (RL5.out.keep (Keeps.of_below hb6))
  have RM := Lib.hid hg.rowC.1
  have H26 := Lib.hid (H25.out.trans (hb6.mono H25.out.size))
  have H06 := Lib.hid (H05.out.trans (hb6.mono H05.out.size))
  have Hgt := Lib.hid (GRP.out Pl cl m L w6 RL.out HLo.out HLm.out.symm (by omega))
  clear hg hb6 hul Hmk RL5
  go_wp2_with fail
  refine Hgt.out.mono ?_
  rintro e w7 ⟨gv, ug, rfl, hg, hb7⟩
  obtain ⟨Pg, cg, fg, -⟩ := hg.form
  obtain ⟨N, hN⟩ : ∃ N, N = (grpR L).length := ⟨_, rfl⟩
  have hgl := hg.len
  rw [← hN] at hgl
  rw [hgl] at fg
  subst fg
  have hNm : N ≤ 40 := by
    have := grp_le L
    have := HLm.out
    omega
  have HNG := Lib.hid hN
  have HGE := Lib.hid hg.e
  have HB7 := Lib.hid hb7
  have HGo := Lib.hid (grp_ok HLo.out)
  clear hg hb7 hgl hN Hgt
  go_upto_block 0 with (fail)
  go_cut [] (fun wx => Below w6.heap.size w6 wx)
  case first =>
    go_wp2_with fail
    go_loopw [19] (fun s19 wr => ∃ (i : Nat) (ue : List V5), s19 = .int .i64 i ∧ i ≤ N ∧ GRe w6.heap.size wr (.slice Pg N cg) ue ∧ Below w6.heap.size w6 wr) (fun s19 _ => N - (intOf s19).toNat)
    case atStart => exact ⟨0, ug, rfl, Nat.zero_le _, HGE.out, HB7.out⟩
    case round =>
      rename World => wr
      obtain ⟨i, ue, rfl, hi, hge, hb⟩ := hrel
      by_cases hlt : i < N
      · have d1 : decide ((i : Int) < (N : Int)) = true := decide_eq_true (by omega)
        obtain ⟨hNe, hcl⟩ := hge.cells
        obtain ⟨g, rfl, hgB, hfz, hcl⟩ := hcl (by omega)
        obtain ⟨u, hu⟩ : ∃ u, ue[i]? = some u := ⟨_, List.getElem?_eq_getElem (by omega)⟩
        obtain ⟨x, hx⟩ := hge.2 u (List.mem_of_getElem? hu)
        have hge2 := hge
        rw [hNe] at hge2
        have hge3 := hge2.cnt hu h5
        rw [← hNe] at hge3
        obtain ⟨c0, c1, c2, c3, c4⟩ := flatV_five hu
        have p1 := hcl _ _ c1
        have hf1 := hfz (i * 5 + 1)
        obtain ⟨Pk, lk, ck, f1⟩ : ∃ P n c, u.a = .slice P n c := by obtain ⟨P, c, e, -⟩ := hx.2.1.key.form; exact ⟨P, _, c, e⟩
        obtain ⟨Ps, ls, cs', f2⟩ : ∃ P n c, u.c = .slice P n c := by obtain ⟨P, c, e, -⟩ := hx.2.1.sum.form; exact ⟨P, _, c, e⟩
        have hue : (ue.set i ⟨u.a, .int .i64 a5, u.c, u.d, u.e⟩)[i]? = some ⟨.slice Pk lk ck, .int .i64 a5, .slice Ps ls cs', u.d, u.e⟩ := by
          rw [List.getElem?_set_self (by omega), f1, f2]
        obtain ⟨uf, huf⟩ : ∃ uf, uf = ue.set i ⟨u.a, .int .i64 a5, u.c, u.d, u.e⟩ := ⟨_, rfl⟩
        rw [← huf] at hge3 hue
        have HGE3 := Lib.hid hge3
        have HUE := Lib.hid hue
        have HB3 := Lib.hid (hb.setCell (p := ⟨g, i * 5 + 1, none⟩) hgB (.int .i64 a5))
        have i0 : (0 : Int) ≤ (i : Int) := by omega
        have i1 : (i : Int) < (N : Int) := by omega
        have HgB := Lib.hid hgB
        clear hge hge2 hge3 hNe hcl hfz hu hx c0 c1 c2 c3 c4 f1 f2 hue huf hb hgB
        go_upto_block 2 with (fail)
        go_cut [] (fun wx => GRe w6.heap.size wx (.slice (some ⟨g, 0, none⟩) N cg) uf ∧ Below w6.heap.size w6 wx)
        case first =>
          go_wp2_with fail
          go_loopw [20] (fun s wx => ∃ k : Nat, s = .int .i64 k ∧ k ≤ ls ∧ GRe w6.heap.size wx (.slice (some ⟨g, 0, none⟩) N cg) uf ∧ Below w6.heap.size w6 wx) (fun s _ => ls - (intOf s).toNat)
          case atStart => exact ⟨0, rfl, Nat.zero_le _, And.intro HGE3.out HB3.out⟩
          case round =>
            rename World => wk
            obtain ⟨k, rfl, hk, hge, hb⟩ := hrel
            obtain ⟨hNe, hcl⟩ := hge.cells
            obtain ⟨g', eg, -, -, hcl⟩ := hcl (by omega)
            injection eg with eg
            injection eg with eg
            subst eg
            have p2 := hcl _ _ (flatV_five HUE.out).2.2.1
            by_cases hlt2 : k < ls
            · have d2 : decide ((k : Int) < (ls : Int)) = true := decide_eq_true (by omega)
              obtain ⟨x, hx⟩ := hge.2 _ (List.mem_of_getElem? HUE.out)
              have ho := hx.2.1.sum
              dsimp only at ho
              have hxl : x.sum.length = ls := by
                obtain ⟨P', c', e, -⟩ := ho.form
                injection e with _ e2 _
                exact e2.symm
              have hlm : ls ≤ 9223372036854775807 := by
                obtain ⟨-, cc, -, h1, h2, -⟩ := ho.form
                simp only [maxLen] at h2
                omega
              obtain ⟨P', c', e, hof⟩ := own_form ho.1
              injection e with e1 _ e3
              subst e1 e3
              obtain ⟨h, e4, hB4, hc4⟩ := hof.2.2 (by omega)
              subst e4
              obtain ⟨z, hz⟩ : ∃ z, x.sum[k]? = some z := ⟨_, List.getElem?_eq_getElem (by omega)⟩
              have q2 := hc4 k (.int .i64 z) (by simp [ints, hz])
              have qf : wk.frozen? ⟨h, k, none⟩ = false := World.ownsRow.frozenAt (hxl ▸ ho.1) k
              have hw := And.intro (hge.write (g := h) k ho rfl h5) (hb.setCell (p := ⟨h, k, none⟩) hB4 (.int .i64 a5))
              have HW := Lib.hid hw
              have j0 : (0 : Int) ≤ (k : Int) := by omega
              have j1 : (k : Int) < (ls : Int) := by omega
              clear hge hb hcl ho hx hxl hof hc4 hz hw hNe
              go_wp2
              go_roundw
              case rel => exact ⟨k + 1, by go_num, by omega, HW.out⟩
              case measure => simp [intOf]; omega
            · obtain rfl : k = ls := by omega
              have d2 : decide ((k : Int) < (k : Int)) = false := by simp
              have HF := Lib.hid (And.intro hge hb)
              clear hge hb hcl hNe
              go_wp2
              go_meet
              exact HF.out
        case rest =>
          rename World => wy
          have HY := Lib.hid hcut
          clear hcut
          go_wp2_with fail
          go_loopw [21] (fun s wx => ∃ k : Nat, s = .int .i64 k ∧ k ≤ lk ∧ GRe w6.heap.size wx (.slice (some ⟨g, 0, none⟩) N cg) uf ∧ Below w6.heap.size w6 wx) (fun s _ => lk - (intOf s).toNat)
          case atStart => exact ⟨0, rfl, Nat.zero_le _, HY.out⟩
          case round =>
            rename World => wk
            obtain ⟨k, rfl, hk, hge, hb⟩ := hrel
            obtain ⟨hNe, hcl⟩ := hge.cells
            obtain ⟨g', eg, -, -, hcl⟩ := hcl (by omega)
            injection eg with eg
            injection eg with eg
            subst eg
            have p2 := hcl _ _ (flatV_five HUE.out).1
            by_cases hlt2 : k < lk
            · have d2 : decide ((k : Int) < (lk : Int)) = true := decide_eq_true (by omega)
              obtain ⟨x, hx⟩ := hge.2 _ (List.mem_of_getElem? HUE.out)
              have ho := hx.2.1.key
              dsimp only at ho
              have hxl : x.key.length = lk := by
                obtain ⟨P', c', e, -⟩ := ho.form
                injection e with _ e2 _
                exact e2.symm
              have hlm : lk ≤ 9223372036854775807 := by
                obtain ⟨-, cc, -, h1, h2, -⟩ := ho.form
                simp only [maxLen] at h2
                omega
              obtain ⟨P', c', e, hof⟩ := own_form ho.1
              injection e with e1 _ e3
              subst e1 e3
              obtain ⟨h, e4, hB4, hc4⟩ := hof.2.2 (by omega)
              subst e4
              obtain ⟨z, hz⟩ : ∃ z, x.key[k]? = some z := ⟨_, List.getElem?_eq_getElem (by omega)⟩
              have q2 := hc4 k (.int .i64 z) (by simp [ints, hz])
              have qf : wk.frozen? ⟨h, k, none⟩ = false := World.ownsRow.frozenAt (hxl ▸ ho.1) k
              have hw := And.intro (hge.write (g := h) k ho rfl h5) (hb.setCell (p := ⟨h, k, none⟩) hB4 (.int .i64 a5))
              have HW := Lib.hid hw
              have j0 : (0 : Int) ≤ (k : Int) := by omega
              have j1 : (k : Int) < (lk : Int) := by omega
              clear hge hb hcl ho hx hxl hof hc4 hz hw hNe
              go_wp2
              go_roundw
              case rel => exact ⟨k + 1, by go_num, by omega, HW.out⟩
              case measure => simp [intOf]; omega
            · obtain rfl : k = lk := by omega
              have d2 : decide ((k : Int) < (k : Int)) = false := by simp
              have HF := Lib.hid (And.intro hge hb)
              clear hge hb hcl hNe
              go_wp2
              go_roundw
              case rel => exact ⟨i + 1, uf, by go_num, by omega, HF.out⟩
              case measure => simp [intOf]; omega
      · obtain rfl : i = N := by omega
        have d1 : decide ((i : Int) < (i : Int)) = false := by simp
        have Hb := Lib.hid hb
        clear hb hge
        go_wp2
        go_meet
        exact Hb.out
  case rest =>
    rename World => wx
    have Hb := Lib.hid hcut
    clear hcut
    have HRL := Lib.hid (RL.out.keep (Keeps.of_below Hb.out))
    have HRM := Lib.hid (RM.out.keep (Keeps.of_below Hb.out))
    go_wp2_with fail
    refine (HSM.out Pl Pm m cl cm L wx HRL.out HRM.out HLm.out.symm HLo.out (by omega)).mono ?_
    rintro e V0 ⟨rfl, b0⟩
    have HR0 := Lib.hid (HRL.out.keep (Keeps.of_below b0))
    have BV0 := Lib.hid (Hb.out.trans (b0.mono Hb.out.size))
    clear b0
    go_wp2_with fail
    refine (GRP.out Pl cl m L V0 HR0.out HLo.out HLm.out.symm (by omega)).mono ?_
    rintro e V1 ⟨v1, u1, rfl, g1, b1⟩
    obtain ⟨P1, d1, f1, -⟩ := g1.form
    have l1 : u1.length = N := by rw [g1.len, HNG.out]
    rw [l1] at f1
    subst f1
    have R1 := Lib.hid g1.rowC.1
    have BV1 := Lib.hid (BV0.out.trans (b1.mono BV0.out.size))
    clear g1 b1 l1
    go_wp2_with fail
    refine (HFA.out sa _ (H26.out.trans (BV1.out.mono H26.out.size)) s1 s2).mono ?_
    rintro e V3 ⟨v3, u3, rfl, g3, b3⟩
    rw [← HLL.out] at g3
    obtain ⟨P3, d3, f3, -⟩ := g3.form
    have l3 : u3.length = N := by rw [g3.len, HNG.out]
    rw [l3] at f3
    subst f3
    have R3 := Lib.hid g3.rowC.1
    have R13 := Lib.hid (R1.out.keep (Keeps.of_below b3))
    have BV3 := Lib.hid (BV1.out.trans (b3.mono BV1.out.size))
    clear g3 b3 l3
    go_wp2_with fail
    refine (HSM.out P1 P3 N d1 d3 _ _ R13.out R3.out HNG.out HGo.out (by omega)).mono ?_
    rintro e V4 ⟨rfl, b4⟩
    have BV4 := Lib.hid (BV3.out.trans (b4.mono BV3.out.size))
    clear b4
    go_wp2
    go_ret
    exact ⟨rfl, H06.out.trans (BV4.out.mono H06.out.size)⟩
end Go.Proofs.YtbkcclmhgnplcaaDoor
