/- The walk of the law RecOwn: the Go text returns true, and writes nothing that was there. -/
import Derived.Test.YtbjlbambheogbaaGood
import Derived.Test.YtbjlbambheogbaaRowsCut
import Derived.Test.YtbjlbambheogbaaRegion
import Derived.Deep.CutRange
import Derived.Deep.DeepCutAuto
import Derived.Deep.CutBlock
namespace Go.Proofs.Ytbjlbambheogbaa
open Go.RowKit
/-- What Decode left: how it lies, and that it may be read. -/
structure Told (W : World) (T gt ht q mm m : Nat) (cs : List Int) (l : List Fact) (ps : List (Nat × Nat)) (B : Nat) : Prop where
  box : Box2 24 W T (.slice (some ⟨gt, 0, none⟩) q q) (.int .i64 mm)
  arr : Arr .i64 3 W gt cs
  own : Own 33 W ht (rowCells q mm ps)
  rows : RowsOwn W B ps l
theorem Told.below {W W' : World} {T gt ht q mm m : Nat} {cs : List Int} {l : List Fact} {ps : List (Nat × Nat)} {B : Nat} (h : Told W T gt ht q mm m cs l ps B) (hb : Below W.heap.size W W') : Told W' T gt ht q mm m cs l ps B :=
  ⟨h.box.below hb h.box.lt, h.arr.below hb h.arr.lt, h.own.below hb h.own.lt, h.rows.below hb⟩
theorem Told.only {W W' : World} {T gt ht q mm m k : Nat} {cs : List Int} {l : List Fact} {ps : List (Nat × Nat)} {B : Nat} (h : Told W T gt ht q mm m cs l ps B) (hb : Only k W W') (h1 : k < B) (h2 : B ≤ T) (h3 : B ≤ gt) (h4 : B ≤ ht) : Told W' T gt ht q mm m cs l ps B :=
  ⟨h.box.only hb (by omega), h.arr.only hb (by omega), h.own.only hb (by omega), h.rows.only hb h1⟩
theorem Told.mid {W W' : World} {T gt ht q mm m lo hi : Nat} {cs : List Int} {l : List Fact} {ps : List (Nat × Nat)} {B : Nat} (h : Told W T gt ht q mm m cs l ps B) (hb : Mid lo hi W W') (h1 : hi ≤ B) (h2 : B ≤ T) (h3 : B ≤ gt) (h4 : B ≤ ht) : Told W' T gt ht q mm m cs l ps B :=
  ⟨h.box.mid hb (by omega), h.arr.mid hb (by omega), h.own.mid hb (by omega), h.rows.mid hb h1⟩
set_option maxRecDepth 100000 in
set_option maxHeartbeats 8000000 in
theorem own_walk (a0 : Int) (a1 : Option Addr) (len1 cap1 : Nat) (z1 : List Int) (a2 : Int) (a3 : Option Addr) (len3 cap3 : Nat) (z3 : List Int) (a4 : Int) (w : World) (h0 : inK .i64 a0) (w1 : IsRow .i64 w a1 len1 cap1 z1) (h2 : inK .i64 a2) (w3 : IsRow .i64 w a3 len3 cap3 z3) (h4 : inK .u8 a4) :
    Calls Try.prog 9 #[.int .i64 a0, .slice a1 len1 cap1, .int .i64 a2, .slice a3 len3 cap3, .int .u8 a4] w fun e w' => e = .returned (.bool true) ∧ Below w.heap.size w w' := by
  obtain ⟨n1, lc1, cm1⟩ := w1.nums
  obtain ⟨n3, lc3, cm3⟩ := w3.nums
  have N1 := Lib.hid n1
  have N3 := Lib.hid n3
  obtain ⟨h41, h42⟩ := h4
  clear w1 w3 n1 n3
  go_enter Try.func9, Try.ntmps9
  go_wp2_with fail
  refine (known_any w).mono ?_
  rintro e w1 ⟨rfl, hb1⟩
  have Hb1 := Lib.hid hb1
  clear hb1
  go_wp2_with fail
  refine (Facts_res a0 a2 a1 a3 len1 cap1 len3 cap3 _ _ w1 (N1.out.keep (Keeps.of_below Hb1.out)) (N3.out.keep (Keeps.of_below Hb1.out)) (by omega) (by omega) h0 h2).mono ?_
  rintro e w2 ⟨A, c, D, d, C, q, mm, m, cs, l, rfl, hF⟩
  have F := Lib.hid hF
  obtain ⟨k1, k2, k3, k4⟩ : 1 ≤ q ∧ q ≤ 4 ∧ mm ≤ 2 ∧ m ≤ 40 := ⟨hF.q1, hF.q4, hF.m2, hF.m40⟩
  have hwC : w.heap.size ≤ C := Nat.le_trans Hb1.out.size hF.wC
  have hx : Below w.heap.size w (w2.alloc (.cells #[.slice A q c, .int .i64 mm] 24)) := by
    have h1 := Hb1.out.trans (hF.below.mono Hb1.out.size)
    exact h1.alloc h1.size _
  obtain ⟨S, hS⟩ : ∃ S, S = w2.heap.size := ⟨_, rfl⟩
  have hwS : w.heap.size ≤ S := by rw [hS]; exact Nat.le_trans Hb1.out.size hF.below.size
  have hbb := (Below.refl w2.heap.size w2).alloc (Nat.le_refl _) (.cells #[.slice A q c, .int .i64 mm] 24)
  have hY : RowsY (w2.alloc (.cells #[.slice A q c, .int .i64 mm] 24)) C S (.slice D m d) l := by rw [hS]; exact hF.rows.top.below hbb (Nat.le_refl _)
  have hDS : ∀ x ∈ blk (.slice D m d), x < S := by
    intro x hx
    obtain ⟨vs, _, h2, _⟩ := hF.rows
    rw [hS]; exact (own_blk h2 x hx).2
  have hsz3 : (w2.alloc (.cells #[.slice A q c, .int .i64 mm] 24)).heap.size = S + 1 := by simp [hS]
  have hbox := Box2.new w2 24 (.slice A q c) (.int .i64 mm)
  rw [← hS] at hbox
  have hE := Encode_any A D q c m d cs mm l (w2.alloc (.cells #[.slice A q c, .int .i64 mm] 24)) (hF.nums.keep (Keeps.of_below hbb)) (hF.facts.keep (Keeps.of_below hbb)) (by omega) hF.right
  obtain ⟨g1, g2, g3⟩ := hF.good.lens
  have hL := encB_le (me := (mm : Int)) g1 (by rw [hF.em]; omega) g3
  have hL0 := hF.enc_len
  obtain ⟨xs, hxs⟩ : ∃ xs, xs = encB cs (mm : Int) l := ⟨_, rfl⟩
  have hxb : Bytes xs := by rw [hxs]; exact encB_bytes _ _ _
  unfold NewBytes at hE
  rw [← hxs] at hE hL hL0
  obtain ⟨L, hLe⟩ : ∃ L, L = xs.length := ⟨_, rfl⟩
  rw [← hLe] at hE hL hL0
  have hL1 : 0 < L := by omega
  have HE := Lib.hid hE
  have HX := Lib.hid hx
  have HY := Lib.hid hY
  have HDS := Lib.hid hDS
  have Hxs := Lib.hid hxs
  have Hxb := Lib.hid hxb
  have HLe := Lib.hid hLe
  have Hsz3 := Lib.hid hsz3
  have HS := Lib.hid hS
  have Hg3 := Lib.hid g3
  have c0 := hbox.cell0
  have c1 := hbox.cell1
  clear hF hx hbb hY hDS hsz3 hE hxs hxb hLe hL0 g3 hbox hS
  go_wp2_with fail
  rw [← HS.out]
  generalize w2.alloc _ = w3 at HE HX HY Hsz3 c0 c1 ⊢
  refine HE.out.mono ?_
  rintro e w4 ⟨g, rfl, hbuf, hb4, hg⟩
  obtain ⟨E, hEq⟩ : ∃ E, E = w4.heap.size := ⟨_, rfl⟩
  have hgE : g < E := by rw [hEq]; exact hbuf.lt
  have hgS : S < g := by have := Hsz3.out; omega
  have e0 := own_lit w4 E 5 [] E 0 1 hEq (by omega) (by simp [maxLen]) rfl
  have ba := (Below.refl w4.heap.size w4).alloc (Nat.le_refl _) (.cells #[] 5)
  have hbo : BytesW (w4.alloc (.cells #[] 5)) 0 (.slice (some ⟨g, 0, none⟩) L L) xs := by
    have h := own_below (Buf.own hbuf (Nat.zero_le g) (by rw [← HLe.out]; simp [maxLen]; omega)) ba (Nat.le_refl _)
    rw [← HLe.out] at h
    unfold BytesW
    rw [← HLe.out]
    exact h
  obtain ⟨v5, w5, hrun, hv5, hb5⟩ := append_bytes (w4.alloc (.cells #[] 5)) E 0 _ _ [] xs e0 hbo (by rw [← HLe.out]; exact hL1) (by rw [← HLe.out]; simp; omega) (by rw [hEq]; simp)
  rw [List.nil_append] at hv5
  obtain ⟨A5, cap5, hv, hc5, hc6, hn5⟩ := own_bytes hv5 Hxb.out
  obtain ⟨A6, cap6, hv6, _, _, hg6⟩ := own_form hv5
  rw [← HLe.out] at hv hc5 hn5 hv6 hg6
  obtain ⟨gc, hgc, hgcE, _⟩ := hg6 hL1
  have hb45 : Below w4.heap.size w4 w5 := ba.trans (by rw [← hEq]; exact hb5)
  have hgc5 : gc < w5.heap.size := by
    have := (own_blk hv5 gc (by rw [hv6, hgc]; simp [blk, Value.ownBlock])).2
    exact this
  rw [hv6] at hv
  injection hv with hv1 hv2 hv3
  subst hv3 hv1
  rw [hgc] at hn5 hv6
  subst hv6
  clear hgc hv2
  rw [hEq] at hrun
  have Hrun := Lib.hid hrun
  have HEq := Lib.hid hEq
  have Hv5 := Lib.hid hv5
  have hbuf5 : Buf w5 g xs := (hb45.block g hbuf.lt).trans hbuf
  have Hbuf5 := Lib.hid hbuf5
  have HB5 := Lib.hid (HX.out.trans ((hb4.mono HX.out.size).trans (hb45.mono (Nat.le_trans HX.out.size hb4.size))))
  have HY5 := Lib.hid ((HY.out.below hb4 (Nat.le_refl _)).below hb45 (Nat.le_refl _))
  have hD5 := Decode_any (some ⟨gc, 0, none⟩) L cap6 xs w5 hn5 hc5 (by simpa [maxLen] using hc6)
  have hSE : S < E := by omega
  have HD5 : Hid (Calls Try.prog 23 #[.slice (some ⟨gc, 0, none⟩) L cap6] w5 fun e w' => ∃ gt ht ps, e = .returned (.tuple #[.agg #[.slice (some ⟨gt, 0, none⟩) q q, .int .i64 mm], .slice (some ⟨ht, 0, none⟩) m m, .int .i64 0]) ∧ Below w5.heap.size w5 w' ∧ (w5.heap.size ≤ gt ∧ w5.heap.size ≤ ht) ∧ Arr .i64 3 w' gt cs ∧ Own 33 w' ht (rowCells q mm ps) ∧ RowsOwn w' w5.heap.size ps l) := by
    refine Lib.hid (hD5.mono ?_)
    intro e w' hd
    rw [Hxs.out] at hd
    obtain ⟨gt, ht, ps, rfl, _, _, hb, hbd, harr, hown, hro⟩ := hd.back F.out.right (by rw [F.out.em]; omega) (fun r hr => (F.out.small r hr).2)
    rw [F.out.eq, F.out.em]
    rw [F.out.eq, Int.toNat_natCast] at hown
    exact ⟨gt, ht, ps, rfl, hb, hbd, harr, hown, hro⟩
  clear hEq hrun hv5 hbuf5 hb5 hb45 ba hbo e0 hn5 hD5 hbuf hb4 hg hg6 HY HX HE hc5 hc6
  go_wp2_with (at_builtin; have _t := Hrun; refine wpList_append_eq rfl (.tmp 35) (.tmp 36) 36 rfl _ _ _ _ rfl rfl Hrun.out ?_; clear _t Hrun)
  refine HD5.out.mono ?_
  rintro e w6 ⟨gt, ht, ps, rfl, hb6, ⟨hgt, hht⟩, harr, hown, hro⟩
  have hb7 := (Below.refl w6.heap.size w6).alloc (Nat.le_refl _) (.cells #[.slice (some ⟨gt, 0, none⟩) q q, .int .i64 mm] 24)
  have h67 := hb6.trans (hb7.mono hb6.size)
  have t7 : Told (w6.alloc (.cells #[.slice (some ⟨gt, 0, none⟩) q q, .int .i64 mm] 24)) w6.heap.size gt ht q mm m cs l ps w5.heap.size := ⟨Box2.new _ _ _ _, harr.below hb7 harr.lt, hown.below hb7 hown.lt, hro.below hb7⟩
  have T7 := Lib.hid t7
  have V7 := Lib.hid (own_below Hv5.out h67 (Nat.le_refl _))
  have b7 : Buf (w6.alloc (.cells #[.slice (some ⟨gt, 0, none⟩) q q, .int .i64 mm] 24)) g xs := (h67.block g Hbuf5.out.lt).trans Hbuf5.out
  have B7 := Lib.hid b7
  have Y7 := Lib.hid (HY5.out.below h67 (Nat.le_refl _))
  have X7 := Lib.hid (HB5.out.trans (h67.mono HB5.out.size))
  obtain ⟨T, hT⟩ : ∃ T, T = w6.heap.size := ⟨_, rfl⟩
  have hT5 : w5.heap.size ≤ T := by rw [hT]; exact hb6.size
  have HT := Lib.hid hT
  clear b7 hb6 hb7 h67 t7 harr hown hro hT Hv5 Hbuf5 HY5 HB5 HD5 c0 c1
  go_wp2_with fail
  rw [← HT.out] at T7 ⊢
  generalize w6.alloc _ = w7 at T7 V7 B7 Y7 X7 ⊢
  have hyb : ∀ y ∈ xs, 0 ≤ y ∧ y ≤ 255 := Hxb.out
  have Hyb := Lib.hid hyb
  clear hyb
  go_loopw [18] (fun i wr => ∃ k : Nat, k ≤ L ∧ i = .int .i64 k ∧ ∃ ys, ys.length = L ∧ (∀ y ∈ ys, 0 ≤ y ∧ y ≤ 255) ∧ wr.ownsRow E 5 1 (.slice (some ⟨gc, 0, none⟩) L cap6) L (bytesV ys) ∧ Only gc w7 wr ∧ wr.heap.size = w7.heap.size) (fun i _ => L - (intOf i).toNat)
  case atStart => exact ⟨0, by omega, rfl, xs, HLe.out.symm, Hyb.out, by have := V7.out; rw [← HLe.out] at this; exact this, Only.refl _ _, rfl⟩
  case round =>
    rename World => wk
    obtain ⟨k, hk, rfl, ys, hyl, hyb, ho, hon, hsz⟩ := hrel
    have Ho := Lib.hid ho
    have Hon := Lib.hid hon
    have Hyl := Lib.hid hyl
    have Hyb2 := Lib.hid hyb
    have Hsz := Lib.hid hsz
    clear ho hon hyl hyb hsz
    by_cases hlt : k < L
    · obtain ⟨y, hy⟩ : ∃ y, ys[k]? = some y := ⟨_, List.getElem?_eq_getElem (by rw [Hyl.out]; exact hlt)⟩
      obtain ⟨hy1, hy2⟩ := Hyb2.out y (List.mem_of_getElem? hy)
      have hcell : wk.cell? ⟨gc, k, none⟩ = some (.int .u8 y) := by
        rw [World.ownsRow.cellAt Ho.out k (by omega)]
        simp [bytesV, hy]
      have hfr := World.ownsRow.frozenAt Ho.out k
      have hk0 : (0 : Int) ≤ (k : Int) := by omega
      have hk1 : (k : Int) < (L : Int) := by omega
      have hfin : ∃ ys', ys'.length = L ∧ (∀ y ∈ ys', 0 ≤ y ∧ y ≤ 255) ∧ (wk.setCell ⟨gc, k, none⟩ (.int .u8 ((y + a4) % 256))).ownsRow E 5 1 (.slice (some ⟨gc, 0, none⟩) L cap6) L (bytesV ys') ∧ Only gc w7 (wk.setCell ⟨gc, k, none⟩ (.int .u8 ((y + a4) % 256))) ∧ (wk.setCell ⟨gc, k, none⟩ (.int .u8 ((y + a4) % 256))).heap.size = w7.heap.size := by
        refine ⟨ys.set k ((y + a4) % 256), by rw [List.length_set]; exact Hyl.out, fun z hz => ?_, ?_, Hon.out.setCell k _, by simp [World.setCell]; exact Hsz.out⟩
        · rcases List.mem_or_eq_of_mem_set hz with hz | rfl
          · exact Hyb2.out z hz
          · omega
        · have := (Ho.out.stored k (.int .u8 ((y + a4) % 256))).1
          simpa [bytesV, List.map_set] using this
      have Fin := Lib.hid hfin
      clear hy hfin
      go_wp2
      exact ⟨⟨k + 1, by omega, by go_num, Fin.out⟩, by simp [intOf]; omega⟩
    · obtain rfl : L = k := by omega
      have hgcS : S < gc := by omega
      have hne : ¬ gc ∈ blk (.slice D m d) := fun hx => by have := HDS.out gc hx; omega
      have T8 := Lib.hid (T7.out.only Hon.out hgc5 hT5 hgt hht)
      have b8 : Buf wk g xs := (Hon.out.block g B7.out.lt (by omega)).trans B7.out
      have B8 := Lib.hid b8
      clear b8
      have Y8 := Lib.hid (Y7.out.only Hon.out (by omega) hne)
      have hwgc : w.heap.size ≤ gc := by omega
      have X8 := Lib.hid (X7.out.trans (Hon.out.below hwgc X7.out.size))
      clear hlt Ho Hon Hyl Hyb2 T7 B7 Y7 X7 V7 hne
      go_wp2_with fail
      go_loopw [19] (fun i wr => ∃ j : Nat, j ≤ m ∧ i = .int .i64 j ∧ ∃ l', l'.length = m ∧ (∀ r ∈ l', r.key.length = q) ∧ RowsY wr C S (.slice D m d) l' ∧ Mid C S wk wr) (fun i _ => m - (intOf i).toNat)
      case atStart => exact ⟨0, by omega, rfl, l, F.out.em, fun r hr => (F.out.lens r hr).1, Y8.out, Mid.refl _ _ _⟩
      case round =>
        rename World => wm
        obtain ⟨j, hj, rfl, l', hl, hq, hy, hm⟩ := hrel
        have Hl' := Lib.hid hl
        have Hq := Lib.hid hq
        have Hy := Lib.hid hy
        have Hm := Lib.hid hm
        clear hl hq hy hm Y8
        by_cases hlj : j < m
        · obtain ⟨r, hr⟩ : ∃ r, l'[j]? = some r := ⟨_, List.getElem?_eq_getElem (by rw [Hl'.out]; exact hlj)⟩
          have hrq := Hq.out r (List.mem_of_getElem? hr)
          obtain ⟨gl, cl, gk, dd, hv, hck, hf, ⟨yy, hyy⟩, hB, hU, hY'⟩ := Hy.out.set_key hr (j := 0) (by omega) 0
          rw [Hl'.out] at hv
          rw [hrq] at hck
          injection hv with hv1 hv2 hv3
          subst hv1 hv3
          clear hv2
          have hfin : ∃ l'', l''.length = m ∧ (∀ r ∈ l'', r.key.length = q) ∧ RowsY (wm.setCell ⟨gk, 0, none⟩ (.int .i64 0)) C S (.slice (some ⟨gl, 0, none⟩) m d) l'' ∧ Mid C S wk (wm.setCell ⟨gk, 0, none⟩ (.int .i64 0)) := by
            refine ⟨_, by rw [List.length_set]; exact Hl'.out, fun z hz => ?_, hY', Hm.out.setCell hB hU 0 _⟩
            rcases List.mem_or_eq_of_mem_set hz with hz | rfl
            · exact Hq.out z hz
            · simpa using hrq
          have Fin := Lib.hid hfin
          have hq0 : 0 < q := by omega
          have hj0 : (0 : Int) ≤ (j : Int) := by omega
          have hj1 : (j : Int) < (m : Int) := by omega
          clear hr hrq hY' hfin
          go_wp2
          exact ⟨⟨j + 1, by omega, by go_num, Fin.out⟩, by simp [intOf]; omega⟩
        · have hS5 : S ≤ w5.heap.size := by omega
          have T9 := Lib.hid (T8.out.mid Hm.out hS5 hT5 hgt hht)
          have B9 := Lib.hid (B8.out.mid Hm.out (.inr (by omega)))
          have X9 := Lib.hid (X8.out.trans (Hm.out.below.mono hwC))
          clear Hl' Hq Hy Hm T8 B8 X8
          go_wp2_with fail
          refine (Facts_res a0 a2 a1 a3 len1 cap1 len3 cap3 _ _ wm (N1.out.keep (Keeps.of_below X9.out)) (N3.out.keep (Keeps.of_below X9.out)) (by omega) (by omega) h0 h2).mono ?_
          rintro e wn ⟨A2, c2, D2, d2, C2, q2, mm2, m2, cs2, l2, rfl, hF2⟩
          have ec : cs2 = cs := hF2.ecs.trans F.out.ecs.symm
          have em : mm2 = mm := hF2.emm.trans F.out.emm.symm
          subst ec em
          have el : l2 = l := hF2.el.trans F.out.el.symm
          subst el
          have eq2 : q2 = q := hF2.eq.symm.trans F.out.eq
          have em2 : m2 = m := hF2.em.symm.trans F.out.em
          subst eq2 em2
          have hbq := (Below.refl wn.heap.size wn).alloc (Nat.le_refl _) (.cells #[.slice A2 q2 c2, .int .i64 mm2] 24)
          have hall := hF2.below.trans (hbq.mono hF2.below.size)
          have u1 := Box2.new wn 24 (.slice A2 q2 c2) (.int .i64 mm2)
          have UN := Lib.hid (hF2.nums.keep (Keeps.of_below hbq))
          have UF := Lib.hid (hF2.facts.keep (Keeps.of_below hbq))
          have TQ := Lib.hid (T9.out.below hall)
          have bq : Buf (wn.alloc (.cells #[.slice A2 q2 c2, .int .i64 mm2] 24)) g xs := (hall.block g B9.out.lt).trans B9.out
          have BQ := Lib.hid bq
          have XQ := Lib.hid (X9.out.trans (hall.mono X9.out.size))
          obtain ⟨U, hU⟩ : ∃ U, U = wn.heap.size := ⟨_, rfl⟩
          rw [← hU] at u1
          have U1 := Lib.hid u1
          have HU := Lib.hid hU
          have G := Lib.hid hF2
          clear hF2 hbq hall u1 bq hU T9 B9 X9
          go_upto_region 16 with (fail)
          rw [← HU.out]
          generalize wn.alloc _ = wq at UN UF TQ BQ XQ U1 ⊢
          have TN : Hid (Nums .i64 wq (some ⟨gt, 0, none⟩) q2 cs2) := by
            have h := TQ.out.arr.nums (fun x hx => by have := F.out.c16 x hx; simp only [inK]; omega)
            rw [F.out.eq] at h
            exact Lib.hid h
          have TF : Hid (Facts wq (some ⟨ht, 0, none⟩) m2 l2) := by
            have h := RowsOwn.facts TQ.out.own TQ.out.rows (fun r hr => ⟨F.out.lens r hr, F.out.small r hr⟩)
            rw [F.out.em] at h
            exact Lib.hid h
          have BN : Hid (Nums .u8 wq (some ⟨g, 0, none⟩) L xs) := by
            have h := Arr.nums (T := 5) BQ.out Hxb.out
            rw [← HLe.out] at h
            exact Lib.hid h
          have hsame : sameB cs2 (mm2 : Int) l2 cs2 (mm2 : Int) l2 = true := by simp [sameB]
          have hS := Same_any (some ⟨gt, 0, none⟩) (some ⟨ht, 0, none⟩) A2 D2 q2 q2 m2 m2 q2 c2 m2 d2 cs2 cs2 mm2 mm2 l2 l2 wq.drew TN.out TF.out UN.out UF.out (by omega) (by omega) (fun r hr => by have := Hg3.out r hr; omega)
          rw [hsame] at hS
          have HSm := Lib.hid hS
          have HR := Lib.hid (fun (W : World) (hW : Keeps wq W) => rEncode_any A2 D2 q2 c2 m2 d2 cs2 mm2 l2 W (UN.out.keep hW) (UF.out.keep hW) (by omega) (by omega) (by simp only [inK]; omega) Hg3.out)
          have t0 := TQ.out.box.cell0
          have t1 := TQ.out.box.cell1
          have u0 := U1.out.cell0
          have u1 := U1.out.cell1
          clear hsame hS
          refine wp_region_held_drew (S := fun W => Keeps wq W) (by kernel_rfl) ((Keeps.refl wq).drewN 1) (fun hHeld => ?_)
          refine wpAnyH_take (i := 0) (v := ?vz0) rfl (by kernel_rfl) (by kernel_rfl) (by kernel_rfl) (fun _ _ _ h => h) (Or.inl ⟨by rfl, ?yz0⟩) hHeld ?rz0
          case yz0 => (intro W hW; go_simp; first | done | with_reducible rfl)
          try simp only [List.getElem_toArray, List.getElem_cons_zero, Act.put, List.setIfInBounds_toArray, List.set_cons_zero, List.set_cons_succ]
          refine wpAnyH_take (i := 1) (v := ?vz1) rfl (by kernel_rfl) (by kernel_rfl) (by kernel_rfl) (fun _ _ _ h => h) (Or.inl ⟨by rfl, ?yz1⟩) hHeld ?rz1
          case yz1 => (intro W hW; go_simp; first | done | with_reducible rfl)
          try simp only [List.getElem_toArray, List.getElem_cons_succ, List.getElem_cons_zero, Act.put, List.setIfInBounds_toArray, List.set_cons_zero, List.set_cons_succ]
          refine wpAnyH_take (i := 2) (v := ?vz2) rfl (by kernel_rfl) (by kernel_rfl) (by kernel_rfl) (fun _ _ _ h => h) (Or.inl ⟨by rfl, ?yz2⟩) hHeld ?rz2
          case yz2 => (intro W hW; go_simp; first | done | with_reducible rfl)
          try simp only [List.getElem_toArray, List.getElem_cons_succ, List.getElem_cons_zero, Act.put, List.setIfInBounds_toArray, List.set_cons_zero, List.set_cons_succ]
          refine wpAnyH_take (i := 3) (v := ?vz3) rfl (by kernel_rfl) (by kernel_rfl) (by kernel_rfl) (fun _ _ _ h => h) (Or.inl ⟨by rfl, ?yz3⟩) hHeld ?rz3
          case yz3 => (intro W hW; have h0 := hW _ _ t0; have h1 := hW _ _ t1; go_simp; first | done | with_reducible rfl)
          try simp only [List.getElem_toArray, List.getElem_cons_succ, List.getElem_cons_zero, Act.put, List.setIfInBounds_toArray, List.set_cons_zero, List.set_cons_succ]
          refine wpAnyH_take (i := 4) (v := ?vz4) rfl (by kernel_rfl) (by kernel_rfl) (by kernel_rfl) (fun _ _ _ h => h) (Or.inl ⟨by rfl, ?yz4⟩) hHeld ?rz4
          case yz4 => (intro W hW; go_simp; first | done | with_reducible rfl)
          try simp only [List.getElem_toArray, List.getElem_cons_succ, List.getElem_cons_zero, Act.put, List.setIfInBounds_toArray, List.set_cons_zero, List.set_cons_succ]
          refine wpAnyH_take (i := 5) (v := ?vz5) rfl (by kernel_rfl) (by kernel_rfl) (by kernel_rfl) (fun _ _ _ h => h) (Or.inl ⟨by rfl, ?yz5⟩) hHeld ?rz5
          case yz5 => (intro W hW; have h0 := hW _ _ u0; have h1 := hW _ _ u1; go_simp; first | done | with_reducible rfl)
          try simp only [List.getElem_toArray, List.getElem_cons_succ, List.getElem_cons_zero, Act.put, List.setIfInBounds_toArray, List.set_cons_zero, List.set_cons_succ]
          refine wpAnyH_take (i := 6) (v := ?vz6) rfl (by kernel_rfl) (by kernel_rfl) (by kernel_rfl) (fun _ _ _ h => h) (Or.inl ⟨by rfl, ?yz6⟩) hHeld ?rz6
          case yz6 => (intro W hW; go_simp; first | done | with_reducible rfl)
          try simp only [List.getElem_toArray, List.getElem_cons_succ, List.getElem_cons_zero, Act.put, List.setIfInBounds_toArray, List.set_cons_zero, List.set_cons_succ]
          refine wpAnyH_ready (rs := [7]) (by kernel_rfl) (by simp) ?_
          refine AllReadyH.cons rfl (fun K hK => ?_) AllReadyH.nil
          go_simp
          refine HSm.out.mono ?_
          rintro e wa ⟨rfl, hba⟩
          go_wp2_with fail
          refine hK.out _ _ ?_ (fun hHeld => ?_)
          · exact (Keeps.of_below (show Below wq.heap.size wq wa from ⟨hba.os, hba.tape, hba.output, hba.size, hba.block⟩))
          clear hK K
          try simp only [List.getElem_toArray, List.getElem_cons_succ, List.getElem_cons_zero, Act.put, List.setIfInBounds_toArray, List.set_cons_zero, List.set_cons_succ]
          have KA := Lib.hid (Keeps.of_below (show Below wq.heap.size wq wa from ⟨hba.os, hba.tape, hba.output, hba.size, hba.block⟩))
          have XA := Lib.hid (XQ.out.trans ((show Below wq.heap.size wq wa from ⟨hba.os, hba.tape, hba.output, hba.size, hba.block⟩).mono XQ.out.size))
          refine wpAnyH_take (i := 8) (v := ?vz8) rfl (by kernel_rfl) (by kernel_rfl) (by kernel_rfl) (fun _ _ _ h => h) (Or.inl ⟨by rfl, ?yz8⟩) hHeld ?rz8
          case yz8 => (intro W hW; go_simp; first | done | with_reducible rfl)
          try simp only [List.getElem_toArray, List.getElem_cons_succ, List.getElem_cons_zero, Act.put, List.setIfInBounds_toArray, List.set_cons_zero, List.set_cons_succ]
          refine wpAnyH_take (i := 9) (v := ?vz9) rfl (by kernel_rfl) (by kernel_rfl) (by kernel_rfl) (fun _ _ _ h => h) (Or.inl ⟨by rfl, ?yz9⟩) hHeld ?rz9
          case yz9 => (intro W hW; go_simp; first | done | with_reducible rfl)
          try simp only [List.getElem_toArray, List.getElem_cons_succ, List.getElem_cons_zero, Act.put, List.setIfInBounds_toArray, List.set_cons_zero, List.set_cons_succ]
          refine wpAnyH_take (i := 10) (v := ?vz10) rfl (by kernel_rfl) (by kernel_rfl) (by kernel_rfl) (fun _ _ _ h => h) (Or.inl ⟨by rfl, ?yz10⟩) hHeld ?rz10
          case yz10 => (intro W hW; go_simp; first | done | with_reducible rfl)
          try simp only [List.getElem_toArray, List.getElem_cons_succ, List.getElem_cons_zero, Act.put, List.setIfInBounds_toArray, List.set_cons_zero, List.set_cons_succ]
          refine wpAnyH_take (i := 11) (v := ?vz11) rfl (by kernel_rfl) (by kernel_rfl) (by kernel_rfl) (fun _ _ _ h => h) (Or.inl ⟨by rfl, ?yz11⟩) hHeld ?rz11
          case yz11 => (intro W hW; have hk : (convert 36 9 (.slice (some ⟨g, 0, none⟩) L L)).run Try.prog W = .ok (.string (strOf xs)) W := conv_str _ _ _ Try.underlying36 Try.underlying5 Try.underlying9 _ _ _ _ _ (BN.out.keep hW); go_simp; first | done | with_reducible rfl)
          try simp only [List.getElem_toArray, List.getElem_cons_succ, List.getElem_cons_zero, Act.put, List.setIfInBounds_toArray, List.set_cons_zero, List.set_cons_succ]
          refine wpAnyH_take (i := 12) (v := ?vz12) rfl (by kernel_rfl) (by kernel_rfl) (by kernel_rfl) (fun _ _ _ h => h) (Or.inl ⟨by rfl, ?yz12⟩) hHeld ?rz12
          case yz12 => (intro W hW; have h0 := hW _ _ u0; have h1 := hW _ _ u1; go_simp; first | done | with_reducible rfl)
          try simp only [List.getElem_toArray, List.getElem_cons_succ, List.getElem_cons_zero, Act.put, List.setIfInBounds_toArray, List.set_cons_zero, List.set_cons_succ]
          refine wpAnyH_take (i := 13) (v := ?vz13) rfl (by kernel_rfl) (by kernel_rfl) (by kernel_rfl) (fun _ _ _ h => h) (Or.inl ⟨by rfl, ?yz13⟩) hHeld ?rz13
          case yz13 => (intro W hW; go_simp; first | done | with_reducible rfl)
          try simp only [List.getElem_toArray, List.getElem_cons_succ, List.getElem_cons_zero, Act.put, List.setIfInBounds_toArray, List.set_cons_zero, List.set_cons_succ]
          refine wpAnyH_ready (rs := [14]) (by kernel_rfl) (by simp) ?_
          refine AllReadyH.cons rfl (fun K hK => ?_) AllReadyH.nil
          go_simp
          refine (HR.out _ KA.out).mono ?_
          rintro e wb ⟨vb, rfl, hvb, hbb⟩
          rw [← Hxs.out] at hvb
          obtain ⟨Ab, cb, rfl, _, _, hnb⟩ := own_bytes hvb Hxb.out
          rw [← HLe.out] at hnb ⊢
          go_wp2_with fail
          refine hK.out _ _ ?_ (fun hHeld => ?_)
          · exact (KA.out.trans (Keeps.of_below hbb))
          clear hK K
          try simp only [List.getElem_toArray, List.getElem_cons_succ, List.getElem_cons_zero, Act.put, List.setIfInBounds_toArray, List.set_cons_zero, List.set_cons_succ]
          have NB := Lib.hid hnb
          refine held_grow (S' := fun W => Keeps wb W) (fun W hW => (KA.out.trans (Keeps.of_below hbb)).trans hW) _ _ _ _ ?_
          have hHeld : Keeps wb wb := Keeps.refl _
          refine wpAnyH_take (i := 15) (v := ?vz15) rfl (by kernel_rfl) (by kernel_rfl) (by kernel_rfl) (fun _ _ _ h => h) (Or.inl ⟨by rfl, ?yz15⟩) hHeld ?rz15
          case yz15 => (intro W hW; have hk : (convert 36 9 (.slice Ab L cb)).run Try.prog W = .ok (.string (strOf xs)) W := conv_str _ _ _ Try.underlying36 Try.underlying5 Try.underlying9 _ _ _ _ _ (NB.out.keep hW); go_simp; first | done | with_reducible rfl)
          try simp only [List.getElem_toArray, List.getElem_cons_succ, List.getElem_cons_zero, Act.put, List.setIfInBounds_toArray, List.set_cons_zero, List.set_cons_succ]
          refine wpAnyH_take (i := 16) (v := ?vz16) rfl (by kernel_rfl) (by kernel_rfl) (by kernel_rfl) (fun _ _ _ h => h) (Or.inl ⟨by rfl, ?yz16⟩) hHeld ?rz16
          case yz16 => (intro W hW; go_simp; first | done | with_reducible rfl)
          try simp only [List.getElem_toArray, List.getElem_cons_succ, List.getElem_cons_zero, Act.put, List.setIfInBounds_toArray, List.set_cons_zero, List.set_cons_succ]
          refine wpAnyH_take (i := 17) (v := ?vz17) rfl (by kernel_rfl) (by kernel_rfl) (by kernel_rfl) (fun _ _ _ h => h) (Or.inl ⟨by rfl, ?yz17⟩) hHeld ?rz17
          case yz17 => (intro W hW; go_simp; first | done | with_reducible rfl)
          try simp only [List.getElem_toArray, List.getElem_cons_succ, List.getElem_cons_zero, Act.put, List.setIfInBounds_toArray, List.set_cons_zero, List.set_cons_succ]
          refine wpAnyH_take (i := 18) (v := ?vz18) rfl (by kernel_rfl) (by kernel_rfl) (by kernel_rfl) (fun _ _ _ h => h) (Or.inl ⟨by rfl, ?yz18⟩) hHeld ?rz18
          case yz18 => (intro W hW; go_simp; first | done | with_reducible rfl)
          try simp only [List.getElem_toArray, List.getElem_cons_succ, List.getElem_cons_zero, Act.put, List.setIfInBounds_toArray, List.set_cons_zero, List.set_cons_succ]
          refine wpAnyH_done (by kernel_rfl) ?_ _
          have XB := Lib.hid (XA.out.trans (hbb.mono XA.out.size))
          clear hHeld hba hbb hvb hnb
          go_wp2
          go_ret
          exact ⟨rfl, XB.out⟩
end Go.Proofs.Ytbjlbambheogbaa
