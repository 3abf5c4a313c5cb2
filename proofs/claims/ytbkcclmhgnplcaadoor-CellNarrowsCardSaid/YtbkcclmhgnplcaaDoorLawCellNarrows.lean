/- The law CellNarrows. -/
import Derived.Test.YtbkcclmhgnplcaaDoorRfacts
import Derived.Test.YtbkcclmhgnplcaaDoorWaysP
import Derived.Test.YtbkcclmhgnplcaaDoorCelf
namespace Go.Proofs.YtbkcclmhgnplcaaDoor
open Go.RowKit Go.Shelf
def nw (sa sb : Int) (x : Cel) : Cel := ⟨(dimsL sb).map (pick x.key sa), x.cnt, x.sum, x.mn, x.mx⟩
theorem nw_goes (sa sb : Int) : Goes (nw sa sb) := goes_narrow fun k => (dimsL sb).map (pick k sa)
theorem dims_len {a : Int} (h1 : 0 ≤ a) (h2 : a ≤ 15) : (dimsL a).length ≤ 4 := by
  have h := ones_len a h1 h2
  unfold ones at h
  omega
theorem ofC_key {sa : Int} {r : Fact} {q : Nat} (hl : r.key.length = q) (q4 : q ≤ 4) (a1 : 0 ≤ sa) (a3 : sa ≤ fullB q) : (ofC sa r).key = (dimsL sa).map (valF r.key) :=
  pk_val r.key sa a1 (by rw [hl]; exact a3) (by omega)
theorem nw_of {sa sb : Int} {q : Nat} {l : List Fact} (hl : ∀ r ∈ l, r.key.length = q) (q4 : q ≤ 4) (a1 : 0 ≤ sa) (a2 : sa ≤ 15) (a3 : sa ≤ fullB q) (b1 : 0 ≤ sb) (b2 : sb ≤ 15) (h : bits .andNot .i64 sb sa = 0) : (l.map (ofC sa)).map (nw sa sb) = l.map (ofC sb) := by
  rw [List.map_map]
  refine List.map_congr_left fun r hr => ?_
  have hk := hl r hr
  have hsb := sub_le sa sb a1 a2 b1 b2 h
  show nw sa sb (ofC sa r) = ofC sb r
  unfold nw
  rw [ofC_key hk q4 a1 a3, narrow_key sa sb a1 a2 b1 b2 h]
  unfold ofC
  rw [pk_val r.key sb b1 (by rw [hk]; omega) (by omega)]
theorem nw_ok {sa sb : Int} {me : Nat} {L : List Cel} (b1 : 0 ≤ sb) (b2 : sb ≤ 15) (h : ∀ x ∈ L, EvenC me x ∧ x.key.length ≤ 1000000) : ∀ x ∈ L.map (nw sa sb), EvenC me x ∧ x.key.length ≤ 1000000 := fun x hx => by
  obtain ⟨y, hy, rfl⟩ := List.mem_map.1 hx
  refine ⟨(h y hy).1, ?_⟩
  have := dims_len b1 b2
  show ((dimsL sb).map (pick y.key sa)).length ≤ 1000000
  rw [List.length_map]
  omega
set_option maxRecDepth 100000 in
set_option maxHeartbeats 8000000 in
theorem cellNarrows_walk (a0 : Int) (a1 : Option Addr) (len1 cap1 : Nat) (z1 : List Int) (a2 : Int) (a3 : Option Addr) (len3 cap3 : Nat) (z3 : List Int) (a4 : Int) (a5 : Int) (w : World) (h0 : inK .i64 a0) (w1 : IsRow .i64 w a1 len1 cap1 z1) (h2 : inK .i64 a2) (w3 : IsRow .i64 w a3 len3 cap3 z3) (h4 : inK .i64 a4) (h5 : inK .i64 a5) (hT : Tab w) (hw1 : 1 < w.heap.size) :
    Calls Tryd.prog 7 #[.int .i64 a0, .slice a1 len1 cap1, .int .i64 a2, .slice a3 len3 cap3, .int .i64 a4, .int .i64 a5] w fun e w' => e = .returned (.bool true) ∧ Below w.heap.size w w' := by
  obtain ⟨n1, lc1, cm1⟩ := w1.nums
  obtain ⟨n3, lc3, cm3⟩ := w3.nums
  have N1 := Lib.hid n1
  have N3 := Lib.hid n3
  have HKn := Lib.hid (known_any w hT hw1)
  have HT := Lib.hid hT
  clear w1 w3 n1 n3 hT
  go_enter Tryd.func7, Tryd.ntmps7
  go_wp2_with fail
  refine HKn.out.mono ?_
  rintro e w1 ⟨rfl, hb1⟩
  have Hb1 := Lib.hid hb1
  clear hb1 HKn
  go_wp2_with fail
  refine (Facts_res a0 a2 a1 a3 len1 cap1 len3 cap3 _ _ w1 (N1.out.keep (Keeps.of_below Hb1.out)) (N3.out.keep (Keeps.of_below Hb1.out)) (by omega) (by omega) h0 h2).mono ?_
  rintro e w2 ⟨A, c, D, d, C, q, mm, m, cs, l, rfl, hF⟩
  have F := Lib.hid hF
  obtain ⟨k1, k2, k3, k4⟩ : 1 ≤ q ∧ q ≤ 4 ∧ mm ≤ 2 ∧ m ≤ 40 := ⟨hF.q1, hF.q4, hF.m2, hF.m40⟩
  have hb2 : Below w.heap.size w w2 := Hb1.out.trans (hF.below.mono Hb1.out.size)
  have hb3 : Below w2.heap.size w2 (w2.alloc (.cells #[.slice A q c, .int .i64 mm] 25)) := (Below.refl _ _).alloc (Nat.le_refl _) _
  have hos : Own 25 (w2.alloc (.cells #[.slice A q c, .int .i64 mm] 25)) w2.heap.size [.slice A q c, .int .i64 mm] := heap_alloc_new w2 _
  obtain ⟨s1, s2, s3⟩ := set_bd a4 q k1 k2
  have Hb2 := Lib.hid hb2
  have Hb3 := Lib.hid hb3
  have OS3 := Lib.hid hos
  clear hF hb2 hb3 hos N1 N3
  go_wp2_with fail
  refine (set_any A q c mm a4 _ k1 k2 h4).mono ?_
  rintro e w4 ⟨rfl, rfl⟩
  obtain ⟨sa, hsa⟩ : ∃ sa, sa = a4 % 2 ^ q := ⟨_, rfl⟩
  rw [← hsa] at s1 s2 s3 ⊢
  have hst := fun W => set_any A q c mm a4 W k1 k2 h4
  simp only [← hsa] at hst
  have HST := Lib.hid hst
  clear hsa hst
  have hb4 : Below w2.heap.size w2 ((w2.alloc (.cells #[.slice A q c, .int .i64 mm] 25)).alloc (.cells #[.slice A q c, .int .i64 mm] 25)) := Hb3.out.alloc Hb3.out.size _
  have HB4 := Lib.hid hb4
  have OS4 := Lib.hid (OS3.out.alloc (.cells #[.slice A q c, .int .i64 mm] 25))
  clear hb4
  generalize (w2.alloc (.cells #[.slice A q c, .int .i64 mm] 25)).alloc (.cells #[.slice A q c, .int .i64 mm] 25) = w4 at HB4 OS4 ⊢
  have hl4 : ∀ r ∈ l, r.key.length = q ∧ r.m.length = mm := F.out.lens
  have HL4 := Lib.hid (fun r hr => (show r.key.length ≤ 4 ∧ r.m.length = mm from ⟨by rw [(hl4 r hr).1]; exact k2, (hl4 r hr).2⟩))
  have Hmk := Lib.hid (fun W (hW : Below w2.heap.size w2 W) => make_any D m d C sa l W (F.out.rows.below hW (Nat.le_refl _)) F.out.em k4 F.out.small (fun r hr => by have := hl4 r hr; omega) s1 s2)
  obtain ⟨L, hL⟩ : ∃ L, L = l.map (ofC sa) := ⟨_, rfl⟩
  have hLm : L.length = m := by rw [hL, List.length_map, F.out.em]
  have hLo : ∀ x ∈ L, EvenC mm x ∧ x.key.length ≤ 1000000 := by
    rw [hL]
    exact ofC_even (set := sa) HL4.out
  have HLo := Lib.hid hLo
  have HLm := Lib.hid hLm
  have HLL := Lib.hid hL
  rw [← hL] at Hmk
  have Hb24 := Lib.hid (Hb2.out.trans (HB4.out.mono Hb2.out.size))
  have GRP := Lib.hid (fun (P : Option Addr) (c N : Nat) (K : List Cel) (W : World) (hK : RowC W P N K) (he : ∀ x ∈ K, EvenC mm x ∧ x.key.length ≤ 1000000) (hN : N = K.length) (hn : N ≤ 60) => groupR_any P c N K mm W hK (fun x h => (he x h).1) (fun x h => (he x h).2) (by omega) hN hn)
  have HFA := Lib.hid (fun (set : Int) (W : World) (hW : Below w2.heap.size w2 W) (e1 : 0 ≤ set) (e2 : set ≤ 15) => rFacts_any D m d C mm set l W (F.out.rows.below hW (Nat.le_refl _)) F.out.em k4 F.out.small HL4.out (by omega) e1 e2)
  have HSM := Lib.hid (fun (P Q : Option Addr) (N c d : Nat) (K : List Cel) (W : World) (r1 : RowC W P N K) (r2 : RowC W Q N K) (hN : N = K.length) (he : ∀ x ∈ K, EvenC mm x ∧ x.key.length ≤ 1000000) (hn : N ≤ 1000000) => same_yes P Q N c d K W r1 r2 hN (fun x hx => by
    obtain ⟨⟨e1, e2, e3⟩, e4⟩ := he x hx
    omega) hn)
  clear hl4 hL hLm hLo
  have HW := Lib.hid (fun (W : World) => lwithin2 a5 16 W h5 (by omega) (by omega))
  have hlq : ∀ r ∈ l, r.key.length = q := fun r hr => (F.out.lens r hr).1
  have HLQ := Lib.hid hlq
  clear hlq
  go_wp2_with fail
  refine (HW.out w4).mono ?_
  rintro e w5 ⟨rfl, rfl⟩
  obtain ⟨b1, b2, b3⟩ := and_sub sa (a5 % 16) s1 s2 (by omega) (by omega)
  obtain ⟨sb, hsb⟩ : ∃ sb, sb = bits .and .i64 sa (a5 % 16) := ⟨_, rfl⟩
  rw [← hsb] at b1 b2 b3
  have HSb := hsb.symm
  have hnof := nw_of HLQ.out k2 s1 s2 s3 b1 b2 b3
  rw [← HLL.out] at hnof
  have HNO := Lib.hid hnof
  clear hsb hnof
  go_wp2_with fail
  refine (Hmk.out _ HB4.out).mono ?_
  rintro e w5 ⟨lv, us, rfl, hg, hb5⟩
  obtain ⟨Pl, cl, fl, lcl, -⟩ := hg.form
  have hul := hg.len
  rw [HLm.out] at hul
  rw [hul] at fl lcl
  subst fl
  have H25 := Lib.hid (HB4.out.trans (hb5.mono HB4.out.size))
  have H05 := Lib.hid (Hb24.out.trans (hb5.mono Hb24.out.size))
  have Hgt := Lib.hid (GRP.out Pl cl m L w5 hg.rowC.1 HLo.out HLm.out.symm (by omega))
  clear hg hb5 hul Hmk OS3 OS4
  go_wp2_with fail
  refine Hgt.out.mono ?_
  rintro e w6 ⟨gv, ug, rfl, hg, hb6⟩
  obtain ⟨Pg, cg, fg, -⟩ := hg.form
  obtain ⟨N, hN⟩ : ∃ N, N = (grpR L).length := ⟨_, rfl⟩
  have hgl := hg.len
  rw [← hN] at hgl
  rw [hgl] at fg
  subst fg
  have hNm : N ≤ 40 := by
    have := grp_le L
    have := HLm.out
    omega
  have HN := Lib.hid hN
  have RG := Lib.hid hg.rowC.1
  have HGo := Lib.hid (grp_ok HLo.out)
  have H26 := Lib.hid (H25.out.trans (hb6.mono H25.out.size))
  have H06 := Lib.hid (H05.out.trans (hb6.mono H05.out.size))
  have hkey : ∀ x ∈ grpR L, x.key.length = (dimsL sa).length := fun x hx => by
    rcases grp_keys L [] x hx with ⟨z, hz, _⟩ | ⟨z, hz, e⟩
    · cases hz
    · rw [← e]
      rw [HLL.out] at hz
      obtain ⟨r, hr, rfl⟩ := List.mem_map.1 hz
      rw [ofC_key (HLQ.out r hr) k2 s1 s3, List.length_map]
  have HKY := Lib.hid hkey
  have hwl := dims_len s1 s2
  have hon := ones_len sa s1 s2
  obtain ⟨lk, hlk⟩ : ∃ lk, lk = (dimsL sa).length := ⟨_, rfl⟩
  rw [← hlk] at hon hwl
  have HLK := Lib.hid hlk
  have HON := Lib.hid hon
  clear hg hb6 hgl hN Hgt hkey hlk hon
  go_upto_block 0 with (fail)
  go_cut [18] (fun s18 wx => ∃ ul, GRs w6.heap.size wx s18 ul ((grpR L).map (nw sa sb)) ∧ Below w6.heap.size w6 wx)
  case first =>
    go_wp2_with fail
    go_loopw [18, 19] (fun s18 s19 wx => ∃ (i : Nat) (ul : List V5), s19 = .int .i64 i ∧ i ≤ N ∧ GRs w6.heap.size wx s18 ul (((grpR L).take i).map (nw sa sb)) ∧ Below w6.heap.size w6 wx) (fun _ s19 _ => N - (intOf s19).toNat)
    case atStart => exact ⟨0, [], rfl, Nat.zero_le _, GRs.nil _ _, Below.refl _ _⟩
    case round =>
      rename World => wr
      obtain ⟨i, ul, rfl, hi, hg, hb⟩ := hrel
      have Hg := Lib.hid hg
      have Hb := Lib.hid hb
      clear hg hb
      by_cases hlt : i < N
      · have d1 : decide ((i : Int) < (N : Int)) = true := decide_eq_true (by omega)
        obtain ⟨x, hx⟩ : ∃ x, (grpR L)[i]? = some x := ⟨_, List.getElem?_eq_getElem (by rw [← HN.out]; exact hlt)⟩
        obtain ⟨ad, rfl, hcl⟩ := RG.out.keep (Keeps.of_below Hb.out) (by omega)
        obtain ⟨vk, vs, vn, vm, a0', a1', a2', a3', a4', hcx, hck⟩ := hcl i x hx
        obtain ⟨⟨e1, e2, e3⟩, e4⟩ := HGo.out x (List.mem_of_getElem? hx)
        have hxk := HKY.out x (List.mem_of_getElem? hx)
        rw [← HLK.out] at hxk
        have hww : Keeps w wr := Keeps.of_below (H06.out.trans (Hb.out.mono H06.out.size))
        have hna := narrow_any vk vs vn vm x sa sb lk wr hxk.symm hcx s1 s2 b1 b2 b3 HON.out (by omega) (by omega) (by omega) (HT.out.keep hww) (Nat.lt_of_lt_of_le hw1 (Nat.le_trans H06.out.size Hb.out.size))
        obtain ⟨xc, hxc⟩ : ∃ xc, xc = x.cnt := ⟨_, rfl⟩
        rw [← hxc] at a1' hna
        have HNA := Lib.hid hna
        have HX := Lib.hid hx
        have HXC := Lib.hid hxc
        have HCK := Lib.hid hck
        have i0 : (0 : Int) ≤ (i : Int) := by omega
        have i1 : (i : Int) < (N : Int) := by omega
        clear hcl hcx hna hx hxc hck hww hxk e1 e2 e3 e4
        go_wp2_with fail
        refine HNA.out.mono ?_
        rintro e X1 ⟨kV, sV, nV, mV, rfl, hco, hbv⟩
        obtain ⟨Ak, ak, f1, -⟩ := hco.key.form
        obtain ⟨As, sa', f2, -⟩ := hco.sum.form
        obtain ⟨An, an, f3, -⟩ := hco.mn.form
        obtain ⟨Am, am, f4, -⟩ := hco.mx.form
        dsimp only at f1 f2 f3 f4
        generalize hj1 : ((dimsL sb).map (pick x.key sa)).length = lj1 at f1
        generalize hj2 : x.sum.length = lj2 at f2
        generalize hj3 : x.mn.length = lj3 at f3
        generalize hj4 : x.mx.length = lj4 at f4
        subst f1 f2 f3 f4
        clear hj1 hj2 hj3 hj4
        have hq : OwnC w6.heap.size X1 ⟨.slice Ak lj1 ak, .int .i64 xc, .slice As lj2 sa', .slice An lj3 an, .slice Am lj4 am⟩ (nw sa sb x) := ⟨by rw [HXC.out]; rfl, by
          have h := hco.mono Hb.out.size
          exact ⟨h.key, h.sum, h.mn, h.mx⟩, HCK.out⟩
        have hul := Hg.out.len
        rw [List.length_map, List.length_take] at hul
        obtain ⟨v', X3, hrun, hg3, hgr3, -⟩ := append_one (Hg.out.below hbv) hq (by omega) (Nat.le_trans Hb.out.size hbv.size)
        have hbX := (Hb.out.trans (hbv.mono Hb.out.size)).alloc (Nat.le_trans Hb.out.size hbv.size) (.cells #[.slice Ak lj1 ak, .int .i64 xc, .slice As lj2 sa', .slice An lj3 an, .slice Am lj4 am] 33)
        have hbF := hbX.grown hgr3 hbX.size fun j e => ((Hg.out.below hbv).1.lt j e).1
        have ht : ((grpR L).take (i + 1)).map (nw sa sb) = ((grpR L).take i).map (nw sa sb) ++ [nw sa sb x] := by rw [List.take_add_one, HX.out, List.map_append]; rfl
        rw [← ht] at hg3
        have HG3 := Lib.hid hg3
        have HBF := Lib.hid hbF
        have Hrun := Lib.hid hrun
        clear hq hul hrun hg3 hgr3 hbX hbF ht hco hbv HNA
        go_wp2_with (at_builtin; have _t := Hrun; refine wpList_append_eq rfl (.tmp 47) (.tmp 55) 31 rfl _ _ _ _ rfl rfl Hrun.out ?_; clear _t Hrun)
        go_roundw
        case rel => exact ⟨i + 1, _, by go_num, by omega, HG3.out, HBF.out⟩
        case measure => simp [intOf]; omega
      · obtain rfl : i = N := by omega
        have d1 : decide ((i : Int) < (i : Int)) = false := by simp
        have hfin := Hg.out
        rw [List.take_of_length_le (by rw [← HN.out]; exact Nat.le_refl _)] at hfin
        have HF := Lib.hid hfin
        clear hfin
        go_wp2
        go_meet
        exact ⟨ul, HF.out, Hb.out⟩
  case rest =>
    rename World => wx
    obtain ⟨ul, hg, hb⟩ := hcut
    obtain ⟨Px, cx, fx, -⟩ := hg.form
    have hul := hg.len
    rw [List.length_map, ← HN.out] at hul
    rw [hul] at fx
    subst fx
    obtain ⟨NG, hNG⟩ : ∃ NG, NG = (grpR (l.map (ofC sb))).length := ⟨_, rfl⟩
    have HNG := Lib.hid hNG
    have hok := ofC_even (set := sb) HL4.out
    have HBo := Lib.hid (grp_ok hok)
    have hNG4 : NG ≤ 40 := by
      have := grp_le (l.map (ofC sb))
      have := F.out.em
      rw [List.length_map] at *
      omega
    have he : grpR ((grpR L).map (nw sa sb)) = grpR (l.map (ofC sb)) := by rw [grpR_map (nw_goes sa sb), HNO.out]
    have hgr2 := fun W (hW : Keeps wx W) => GRP.out Px cx N _ W (hg.rowC.1.keep hW) (nw_ok b1 b2 HGo.out) (by rw [List.length_map, ← HN.out]) (by omega)
    rw [he] at hgr2
    have HGR2 := Lib.hid hgr2
    have HBF := Lib.hid hb
    clear hg hul hb hgr2 he hok hNG
    go_wp2_with fail
    refine (HGR2.out wx (Keeps.refl _)).mono ?_
    rintro e V1 ⟨v1, u1, rfl, g1, b1'⟩
    obtain ⟨P1, d1, f1, -⟩ := g1.form
    have l1 : u1.length = NG := by rw [g1.len, HNG.out]
    rw [l1] at f1
    subst f1
    have R1 := Lib.hid g1.rowC.1
    have BV1 := Lib.hid (HBF.out.trans (b1'.mono HBF.out.size))
    clear g1 b1' l1
    go_wp2_with fail
    refine (HFA.out sb _ (H26.out.trans (BV1.out.mono H26.out.size)) b1 b2).mono ?_
    rintro e V3 ⟨v3, u3, rfl, g3, b3'⟩
    obtain ⟨P3, d3, f3, -⟩ := g3.form
    have l3 : u3.length = NG := by rw [g3.len, HNG.out]
    rw [l3] at f3
    subst f3
    have R3 := Lib.hid g3.rowC.1
    have R13 := Lib.hid (R1.out.keep (Keeps.of_below b3'))
    have BV3 := Lib.hid (BV1.out.trans (b3'.mono BV1.out.size))
    clear g3 b3' l3
    go_wp2_with fail
    refine (HSM.out P1 P3 NG d1 d3 _ _ R13.out R3.out HNG.out HBo.out (by omega)).mono ?_
    rintro e V4 ⟨rfl, b4'⟩
    have BV4 := Lib.hid (BV3.out.trans (b4'.mono BV3.out.size))
    clear b4'
    go_wp2
    go_ret
    exact ⟨rfl, H06.out.trans (BV4.out.mono H06.out.size)⟩
end Go.Proofs.YtbkcclmhgnplcaaDoor
