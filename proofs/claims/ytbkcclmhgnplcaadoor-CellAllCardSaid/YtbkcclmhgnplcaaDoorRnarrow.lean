/- The reference's Narrow. -/
import Derived.Test.YtbkcclmhgnplcaaDoorJoinS
import Derived.Test.YtbkcclmhgnplcaaDoorWaysP
import Derived.Test.YtbkcclmhgnplcaaDoorSet
namespace Go.Proofs.YtbkcclmhgnplcaaDoor
open Go.RowKit Go.Shelf
def nw (sa sb : Int) (x : Cel) : Cel := ⟨(dimsL sb).map (pick x.key sa), x.cnt, x.sum, x.mn, x.mx⟩
def atI (frm : Int) : Nat → Nat
  | 0 => 0
  | i + 1 => if frm / 2 ^ i % 2 = 1 then atI frm i + 1 else atI frm i
def nkI (frm tow : Int) : Nat → List Nat
  | 0 => []
  | i + 1 => if frm / 2 ^ i % 2 = 1 ∧ tow / 2 ^ i % 2 = 1 then nkI frm tow i ++ [atI frm i] else nkI frm tow i
theorem nkI_fin : ∀ a b : Fin 16, bits .andNot .i64 (b.val : Int) (a.val : Int) = 0 → nkI (a.val : Int) (b.val : Int) 4 = (dimsL (b.val : Int)).map fun d => (plc (a.val : Int) d).toNat := by decide +kernel
theorem atI_fin : ∀ (a : Fin 16) (i : Fin 4), (a.val : Int) / 2 ^ i.val % 2 = 1 → (atI (a.val : Int) i.val : Int) + 1 ≤ ones (a.val : Int) := by decide +kernel
theorem nkI_all (a b : Int) (a1 : 0 ≤ a) (a2 : a ≤ 15) (b1 : 0 ≤ b) (b2 : b ≤ 15) (h : bits .andNot .i64 b a = 0) (key : List Int) : (nkI a b 4).map (fun j => key[j]?.getD 0) = (dimsL b).map (pick key a) := by
  obtain ⟨fa, rfl⟩ := fin_of a1 a2
  obtain ⟨fb, rfl⟩ := fin_of b1 b2
  rw [nkI_fin fa fb h, List.map_map]
  rfl
theorem atI_lt (a : Int) (a1 : 0 ≤ a) (a2 : a ≤ 15) (i : Nat) (hi : i < 4) (h : a / 2 ^ i % 2 = 1) : (atI a i : Int) + 1 ≤ ones a := by
  obtain ⟨fa, rfl⟩ := fin_of a1 a2
  exact atI_fin fa ⟨i, hi⟩ h
theorem atI_le (a : Int) : ∀ i, atI a i ≤ i
  | 0 => Nat.le_refl _
  | i + 1 => by
    have := atI_le a i
    unfold atI
    split <;> omega
theorem nkI_len (a b : Int) : ∀ i, (nkI a b i).length ≤ i
  | 0 => Nat.le_refl _
  | i + 1 => by
    have := nkI_len a b i
    unfold nkI
    split
    · rw [List.length_append]; simp; omega
    · omega
/-- What stands while Narrow goes on. -/
structure NS (w W : World) (g G : Nat) (ra : List Value) (cnt : Int) (kv s n m : Value) (K S N M : List Int) : Prop where
  a : Own 33 W w.heap.size ra
  r : Own 33 W (w.heap.size + 1) [.slice none 0 0, .int .i64 0, .slice none 0 0, .slice none 0 0, .slice none 0 0]
  c : Own 33 W g [kv, .int .i64 cnt, s, n, m]
  gb : w.heap.size + 1 < g
  gG : G ≤ W.heap.size
  wG : w.heap.size ≤ G
  bel : Below w.heap.size w W
  k : OI G W kv K
  s : OI w.heap.size W s S ∧ ∀ j, s.ownBlock = some j → j < G
  n : OI w.heap.size W n N ∧ ∀ j, n.ownBlock = some j → j < G
  m : OI w.heap.size W m M ∧ ∀ j, m.ownBlock = some j → j < G
theorem NS.drew {w W : World} {g G : Nat} {ra : List Value} {cnt : Int} {kv s n m : Value} {K S N M : List Int} (h : NS w W g G ra cnt kv s n m K S N M) : NS w W.drew g G ra cnt kv s n m K S N M := ⟨h.a, h.r, h.c, h.gb, h.gG, h.wG, h.bel.drew, h.k, h.s, h.n, h.m⟩
theorem NS.step {w W : World} {g G : Nat} {ra : List Value} {cnt : Int} {kv s n m : Value} {K S N M : List Int} (h : NS w W g G ra cnt kv s n m K S N M) (x : Int) (hx : inK .i64 x) (hl : K.length ≤ 1000000) :
    ∃ A c X, (Builtin.append_ #[22, 22] 22 #[kv, .slice (some ⟨W.heap.size, 0, none⟩) 1 1]).run Tryd.prog (W.alloc (.cells #[.int .i64 x] 3)) = .ok (.slice A (K.length + 1) c) X ∧
      Own 33 X g [kv, .int .i64 cnt, s, n, m] ∧ NS w (X.setCell ⟨g, 0, none⟩ (.slice A (K.length + 1) c)) g G ra cnt (.slice A (K.length + 1) c) s n m (K ++ [x]) S N M := by
  obtain ⟨A, c, X, hrun, ho, hgr, hbl⟩ := app_own x h.k hx hl h.gG
  have hal : Below W.heap.size W (W.alloc (.cells #[.int .i64 x] 3)) := (Below.refl _ _).alloc (Nat.le_refl _) _
  have hj1 := h.k.below hal
  have own : ∀ {i : Nat} {us : List Value}, Own 33 W i us → Own 33 X i us := fun o => (o.alloc _).grownI hj1.1 (by decide) hgr
  have hbx : Below w.heap.size w X := (h.bel.alloc h.bel.size _).grown hgr (by simp; have := h.bel.size; omega) fun k e => Nat.le_trans h.wG (hj1.1.lt k e).1
  have hc := own h.c
  have ap : ∀ {v : Value}, (∀ j, v.ownBlock = some j → j < G) → Ap v kv := fun hv b h1 h2 => by
    have := hv b h1
    have := (h.k.1.lt b h2).1
    omega
  have keep : ∀ {v : Value} {xs : List Int}, OI w.heap.size W v xs ∧ (∀ j, v.ownBlock = some j → j < G) → OI w.heap.size (X.setCell ⟨g, 0, none⟩ (.slice A (K.length + 1) c)) v xs ∧ ∀ j, v.ownBlock = some j → j < G := fun hv =>
    ⟨((hv.1.below hal).grownI (ap hv.2) hgr).box hc (by decide), hv.2⟩
  have hsz : W.heap.size ≤ X.heap.size := by
    have := hgr.size
    simp at this
    omega
  refine ⟨A, c, X, hrun, hc, ⟨(own h.a).only (only_setCell _ _ _ _) (by have := h.gb; omega), (own h.r).only (only_setCell _ _ _ _) (by have := h.gb; omega), hc.set_ 0 _, h.gb, ?_, h.wG, hbx.setCell (by have := h.gb; show w.heap.size ≤ g; omega) _, ho.box hc (by decide), keep h.s, keep h.n, keep h.m⟩⟩
  show G ≤ (X.setCell ⟨g, 0, none⟩ (.slice A (K.length + 1) c)).heap.size
  have := h.gG
  simp [World.setCell]
  omega
set_option maxRecDepth 100000 in
set_option maxHeartbeats 4000000 in
theorem rNarrow_any (k s n m : Value) (x : Cel) (frm tow : Int) (lk : Nat) (w : World) (hlk : lk = x.key.length) (hx : CR w k s n m x) (g1 : 0 ≤ frm) (g2 : frm ≤ 15) (t1 : 0 ≤ tow) (t2 : tow ≤ 15) (hsub : bits .andNot .i64 tow frm = 0) (hones : ones frm = (lk : Int)) (hl : x.sum.length ≤ 1000000) (hl2 : x.mn.length ≤ 1000000) (hl3 : x.mx.length ≤ 1000000) :
    Calls Tryd.prog 24 #[.agg #[k, .int .i64 x.cnt, s, n, m], .int .i64 frm, .int .i64 tow] w fun e w' => ∃ k s n m, e = .returned (.agg #[k, .int .i64 x.cnt, s, n, m]) ∧ CO w.heap.size w' k s n m (nw frm tow x) ∧ Below w.heap.size w w' := by
  obtain ⟨⟨Pk, ck, rfl, hk⟩, ⟨Ps, cs, rfl, hs⟩, ⟨Pn, cn, rfl, hn⟩, ⟨Pm, cm, rfl, hm⟩⟩ := hx
  have C1 : Hid (CR w (.slice Pk x.key.length ck) (.slice Ps x.sum.length cs) (.slice Pn x.mn.length cn) (.slice Pm x.mx.length cm) x) := Lib.hid ⟨⟨_, _, rfl, hk⟩, ⟨_, _, rfl, hs⟩, ⟨_, _, rfl, hn⟩, ⟨_, _, rfl, hm⟩⟩
  have NK := Lib.hid hk.1
  have hlk4 : lk ≤ 4 := by unfold ones at hones; omega
  have HCP := Lib.hid (fun (W : World) (hW : Keeps w W) => rCopy_any _ _ _ _ x W (C1.out.keep hW) (by omega) hl hl2 hl3)
  rw [← hlk] at C1 NK HCP ⊢
  generalize hls : x.sum.length = ls at C1 HCP ⊢
  generalize hln : x.mn.length = ln at C1 HCP ⊢
  generalize hlm : x.mx.length = lm at C1 HCP ⊢
  generalize hxc : x.cnt = xc at HCP ⊢
  have HLK := Lib.hid hlk
  have HON := Lib.hid hones
  have HSUB := Lib.hid hsub
  have HXC := Lib.hid hxc
  clear hk hs hn hm hlk hls hln hlm hones hsub hxc hl hl2 hl3
  have o1 : Own 33 ((w.alloc (.cells #[.slice Pk lk ck, .int .i64 xc, .slice Ps ls cs, .slice Pn ln cn, .slice Pm lm cm] 33)).alloc (.cells #[.slice none 0 0, .int .i64 0, .slice none 0 0, .slice none 0 0, .slice none 0 0] 33)) w.heap.size [.slice Pk lk ck, .int .i64 xc, .slice Ps ls cs, .slice Pn ln cn, .slice Pm lm cm] := (show Own 33 (w.alloc (.cells #[.slice Pk lk ck, .int .i64 xc, .slice Ps ls cs, .slice Pn ln cn, .slice Pm lm cm] 33)) w.heap.size [.slice Pk lk ck, .int .i64 xc, .slice Ps ls cs, .slice Pn ln cn, .slice Pm lm cm] from heap_alloc_new w _).alloc _
  have o2 : Own 33 ((w.alloc (.cells #[.slice Pk lk ck, .int .i64 xc, .slice Ps ls cs, .slice Pn ln cn, .slice Pm lm cm] 33)).alloc (.cells #[.slice none 0 0, .int .i64 0, .slice none 0 0, .slice none 0 0, .slice none 0 0] 33)) (w.heap.size + 1) [.slice none 0 0, .int .i64 0, .slice none 0 0, .slice none 0 0, .slice none 0 0] := by
    have := heap_alloc_new (w.alloc (.cells #[.slice Pk lk ck, .int .i64 xc, .slice Ps ls cs, .slice Pn ln cn, .slice Pm lm cm] 33)) (.cells #[.slice none 0 0, .int .i64 0, .slice none 0 0, .slice none 0 0, .slice none 0 0] 33)
    rw [show (w.alloc (.cells #[.slice Pk lk ck, .int .i64 xc, .slice Ps ls cs, .slice Pn ln cn, .slice Pm lm cm] 33)).heap.size = w.heap.size + 1 from by simp] at this
    exact this
  have hb : Below w.heap.size w ((w.alloc (.cells #[.slice Pk lk ck, .int .i64 xc, .slice Ps ls cs, .slice Pn ln cn, .slice Pm lm cm] 33)).alloc (.cells #[.slice none 0 0, .int .i64 0, .slice none 0 0, .slice none 0 0, .slice none 0 0] 33)) := ((Below.refl _ w).alloc (Nat.le_refl _) _).alloc (by simp) _
  have O1 := Lib.hid o1
  have O2 := Lib.hid o2
  have Hb := Lib.hid hb
  clear o1 o2 hb
  go_enter Tryd.func24, Tryd.ntmps24
  go_wp2_with fail
  refine (HCP.out _ (Keeps.of_below Hb.out)).mono ?_
  rintro e X ⟨kV, sV, nV, mV, rfl, hco, hbv⟩
  obtain ⟨Ak, ak, f1, -⟩ := hco.key.form
  obtain ⟨As, sa, f2, -⟩ := hco.sum.form
  obtain ⟨An, an, f3, -⟩ := hco.mn.form
  obtain ⟨Am, am, f4, -⟩ := hco.mx.form
  generalize hj1 : x.key.length = lj1 at f1
  generalize hj2 : x.sum.length = lj2 at f2
  generalize hj3 : x.mn.length = lj3 at f3
  generalize hj4 : x.mx.length = lj4 at f4
  subst f1 f2 f3 f4
  clear hj1 hj2 hj3 hj4
  have hz : ((w.alloc (.cells #[.slice Pk lk ck, .int .i64 xc, .slice Ps ls cs, .slice Pn ln cn, .slice Pm lm cm] 33)).alloc (.cells #[.slice none 0 0, .int .i64 0, .slice none 0 0, .slice none 0 0, .slice none 0 0] 33)).heap.size = w.heap.size + 1 + 1 := by simp
  have hbX := Hb.out.trans (hbv.mono Hb.out.size)
  have hXs : w.heap.size + 1 + 1 ≤ X.heap.size := by rw [← hz]; exact hbv.size
  have hns : NS w (X.alloc (.cells #[.slice none 0 0, .int .i64 xc, .slice As lj2 sa, .slice An lj3 an, .slice Am lj4 am] 33)) X.heap.size (X.heap.size + 1) [.slice Pk lk ck, .int .i64 xc, .slice Ps ls cs, .slice Pn ln cn, .slice Pm lm cm] xc (.slice none 0 0) (.slice As lj2 sa) (.slice An lj3 an) (.slice Am lj4 am) [] x.sum x.mn x.mx := by
    have hal : Below X.heap.size X (X.alloc (.cells #[.slice none 0 0, .int .i64 xc, .slice As lj2 sa, .slice An lj3 an, .slice Am lj4 am] 33)) := (Below.refl _ _).alloc (Nat.le_refl _) _
    have q : ∀ {v : Value} {xs : List Int}, OI ((w.alloc (.cells #[.slice Pk lk ck, .int .i64 xc, .slice Ps ls cs, .slice Pn ln cn, .slice Pm lm cm] 33)).alloc (.cells #[.slice none 0 0, .int .i64 0, .slice none 0 0, .slice none 0 0, .slice none 0 0] 33)).heap.size X v xs → OI w.heap.size (X.alloc (.cells #[.slice none 0 0, .int .i64 xc, .slice As lj2 sa, .slice An lj3 an, .slice Am lj4 am] 33)) v xs ∧ ∀ j, v.ownBlock = some j → j < X.heap.size + 1 := fun o =>
      ⟨(o.mono Hb.out.size).below hal, fun j hj => Nat.lt_succ_of_lt (o.1.lt j hj).2⟩
    exact ⟨(O1.out.below hbv O1.out.lt).alloc _, (O2.out.below hbv O2.out.lt).alloc _, heap_alloc_new X _, by omega, by simp, by omega, hbX.alloc hbX.size _, OI.nil _ _, q hco.sum, q hco.mn, q hco.mx⟩
  have HNS := Lib.hid hns
  clear hns hz hbX hXs hbv hco HCP O1 O2
  go_upto_block 0 with (fail)
  generalize X.alloc (.cells #[.slice none 0 0, .int .i64 xc, .slice As lj2 sa, .slice An lj3 an, .slice Am lj4 am] 33) = W0 at HNS ⊢
  generalize X.heap.size = g at HNS ⊢
  go_cut [] (fun wx => ∃ kv, NS w wx g (g + 1) [.slice Pk lk ck, .int .i64 xc, .slice Ps ls cs, .slice Pn ln cn, .slice Pm lm cm] xc kv (.slice As lj2 sa) (.slice An lj3 an) (.slice Am lj4 am) ((nkI frm tow 4).map fun j => x.key[j]?.getD 0) x.sum x.mn x.mx)
  case first =>
    go_wp2_with fail
    go_loopw [8, 9] (fun s8 s9 wr => ∃ (i : Nat) (kv : Value), s9 = .int .u64 i ∧ s8 = .int .i64 (atI frm i) ∧ i ≤ 4 ∧ NS w wr g (g + 1) [.slice Pk lk ck, .int .i64 xc, .slice Ps ls cs, .slice Pn ln cn, .slice Pm lm cm] xc kv (.slice As lj2 sa) (.slice An lj3 an) (.slice Am lj4 am) ((nkI frm tow i).map fun j => x.key[j]?.getD 0) x.sum x.mn x.mx) (fun _ s9 _ => 4 - (intOf s9).toNat)
    case atStart => exact ⟨0, _, rfl, rfl, by omega, HNS.out⟩
    case round =>
      obtain ⟨i, kv, rfl, rfl, hi, hns⟩ := hrel
      rename World => wr
      by_cases hlt : i < 4
      · have d1 : decide ((i : Int) < 4) = true := decide_eq_true (by omega)
        obtain ⟨q1, q2⟩ := shr_in frm i g1 g2 (by omega)
        obtain ⟨q3, q4⟩ := shr_in tow i t1 t2 (by omega)
        have hb0 : bits .and .i64 (frm / 2 ^ i) 1 = frm / 2 ^ i % 2 := bit_one _ q1 q2
        have hb1 : bits .and .i64 (tow / 2 ^ i) 1 = tow / 2 ^ i % 2 := bit_one _ q3 q4
        have hat := atI_le frm i
        by_cases hbit : frm / 2 ^ i % 2 = 1
        · have d2 : (bits .and .i64 (frm / 2 ^ i) 1 == 1) = true := by rw [hb0, hbit]; rfl
          have ha1 : atI frm (i + 1) = atI frm i + 1 := by rw [atI, if_pos hbit]
          have hatl := atI_lt frm g1 g2 i hlt hbit
          rw [HON.out] at hatl
          by_cases hbit2 : tow / 2 ^ i % 2 = 1
          · have d3 : (bits .and .i64 (tow / 2 ^ i) 1 == 1) = true := by rw [hb1, hbit2]; rfl
            have hn1 : nkI frm tow (i + 1) = nkI frm tow i ++ [atI frm i] := by rw [nkI, if_pos ⟨hbit, hbit2⟩]
            obtain ⟨at', hat'⟩ : ∃ a, a = atI frm i := ⟨_, rfl⟩
            rw [← hat'] at hat ha1 hatl hn1 ⊢
            obtain ⟨ad, y, rfl, hy, hyk, hyc⟩ := (NK.out.keep (Keeps.of_below hns.bel)).at_ (k := at') (by omega)
            have hln := nkI_len frm tow i
            obtain ⟨A, cA, X1, hrun, hco, hst⟩ := hns.drew.step y hyk (by rw [List.length_map]; omega)
            rw [show ((nkI frm tow i).map fun j => x.key[j]?.getD 0) ++ [y] = (nkI frm tow (i + 1)).map fun j => x.key[j]?.getD 0 by rw [hn1, List.map_append]; simp [hy]] at hst
            have c0 := hns.a.cell (i := 0) rfl
            have k0 := hns.c.cell (i := 0) rfl
            have x0 := hco.cell (i := 0) rfl
            have xf := hco.frozen 0
            obtain ⟨lq, hlq⟩ : ∃ q, q = ((nkI frm tow i).map fun j => x.key[j]?.getD 0).length + 1 := ⟨_, rfl⟩
            rw [← hlq] at hrun hst
            have HST := Lib.hid hst
            have Hrun := Lib.hid (show (Builtin.append_ #[22, 22] 22 #[kv, .slice (some ⟨wr.heap.size, 0, none⟩) 1 1]).run Tryd.prog (wr.drew.alloc (.cells #[.int .i64 y] 3)) = .ok (.slice A lq cA) X1 from hrun)
            have HA1 := Lib.hid ha1
            have j0 : (0 : Int) ≤ (at' : Int) := by omega
            have j1 : (at' : Int) < (lk : Int) := by omega
            have hws : w.heap.size + 1 < g := hns.gb
            have hgs : g < wr.heap.size := hns.c.lt
            clear hst hrun hco hns hy hyk hln hlq hb0 hb1 hn1 ha1 hat' hbit hbit2
            go_wp2_with fail
            go_region_law (first | (refine step_append_eq (by rfl) (.tmp 28) (.tmp 34) 22 (by rfl) kv (.slice (some ⟨wr.heap.size, 0, none⟩) 1 1) (.slice A lq cA) X1 (by rfl) (by rfl) Hrun.out ?_) | fail)
            all_goals
              go_wp2
              exact ⟨⟨i + 1, _, by go_num, by rw [HA1.out]; go_num, by omega, HST.out⟩, by simp [intOf]; omega⟩
          · have d3 : (bits .and .i64 (tow / 2 ^ i) 1 == 1) = false := by rw [hb1]; simpa using hbit2
            have hn1 : nkI frm tow (i + 1) = nkI frm tow i := by rw [nkI, if_neg (fun h => hbit2 h.2)]
            rw [← hn1] at hns
            have HNS1 := Lib.hid hns
            have HA1 := Lib.hid ha1
            clear hns hb0 hb1 hn1 ha1
            go_wp2
            go_roundw
            case rel => exact ⟨i + 1, kv, by go_num, by rw [HA1.out]; go_num, by omega, HNS1.out⟩
            case measure => simp [intOf]; omega
        · have d2 : (bits .and .i64 (frm / 2 ^ i) 1 == 1) = false := by rw [hb0]; simpa using hbit
          have ha1 : atI frm (i + 1) = atI frm i := by rw [atI, if_neg hbit]
          have hn1 : nkI frm tow (i + 1) = nkI frm tow i := by rw [nkI, if_neg (fun h => hbit h.1)]
          rw [← hn1] at hns
          have HNS1 := Lib.hid hns
          have HA1 := Lib.hid ha1
          clear hns hb0 hb1 hn1 ha1
          go_wp2
          go_roundw
          case rel => exact ⟨i + 1, kv, by go_num, by rw [HA1.out], by omega, HNS1.out⟩
          case measure => simp [intOf]; omega
      · obtain rfl : i = 4 := by omega
        have HNS1 := Lib.hid hns
        clear hns
        go_wp2
        go_meet
        exact ⟨kv, HNS1.out⟩
  case rest =>
    obtain ⟨kv, hns⟩ := hcut
    rename World => wr
    rw [nkI_all frm tow g1 g2 t1 t2 HSUB.out] at hns
    obtain ⟨Y0, y0, f0, -⟩ := hns.k.form
    generalize ((dimsL tow).map (pick x.key frm)).length = l0 at f0
    subst f0
    have hc := hns.c
    have hr := hns.r
    have hgb := hns.gb
    obtain ⟨Wf, hWf⟩ : ∃ Wf, Wf = put5 wr (w.heap.size + 1) (.slice Y0 l0 y0) (.int .i64 xc) (.slice As lj2 sa) (.slice An lj3 an) (.slice Am lj4 am) := ⟨_, rfl⟩
    have of := hWf ▸ put5_own (v0 := .slice Y0 l0 y0) (v1 := .int .i64 xc) (v2 := .slice As lj2 sa) (v3 := .slice An lj3 an) (v4 := .slice Am lj4 am) hr
    have onl : Only (w.heap.size + 1) wr Wf := hWf ▸ put5_only
    have fin : CO w.heap.size Wf (.slice Y0 l0 y0) (.slice As lj2 sa) (.slice An lj3 an) (.slice Am lj4 am) (nw frm tow x) :=
      ⟨(hns.k.mono hns.wG).only onl hr (by decide), hns.s.1.only onl hr (by decide), hns.n.1.only onl hr (by decide), hns.m.1.only onl hr (by decide)⟩
    have hbf : Below w.heap.size w Wf := hns.bel.trans (onl.below (by omega) hns.bel.size)
    unfold put5 at hWf
    have Q0 := hc.cell (i := 0) rfl
    have Q1 := hc.cell (i := 1) rfl
    have Q2 := hc.cell (i := 2) rfl
    have Q3 := hc.cell (i := 3) rfl
    have Q4 := hc.cell (i := 4) rfl
    have R0 := hr.cell (i := 0) rfl
    have R1 := hr.cell (i := 1) rfl
    have R2 := hr.cell (i := 2) rfl
    have R3 := hr.cell (i := 3) rfl
    have R4 := hr.cell (i := 4) rfl
    have Rf := hr.frozen
    have r0 := of.cell (i := 0) rfl
    have r1 := of.cell (i := 1) rfl
    have r2 := of.cell (i := 2) rfl
    have r3 := of.cell (i := 3) rfl
    have r4 := of.cell (i := 4) rfl
    have HWf := Lib.hid hWf
    have Fin := Lib.hid fin
    have Hbf := Lib.hid hbf
    clear hWf fin hbf onl of hc hr hns
    go_wp2_with fail
    have e5 := HWf.out
    rw [← e5]
    exact bodyPost_ret (v := .agg #[.slice Y0 l0 y0, .int .i64 xc, .slice As lj2 sa, .slice An lj3 an, .slice Am lj4 am]) (by simp [results, Tryd.results24, go_sem, r0, r1, r2, r3, r4]) rfl ⟨_, _, _, _, rfl, Fin.out, Hbf.out⟩
end Go.Proofs.YtbkcclmhgnplcaaDoor
