/- The law CellSorts. -/
import Derived.Test.YtbkcclmhgnplcaaDoorJoinS
import Derived.Test.YtbkcclmhgnplcaaDoorCelc
import Derived.Test.YtbkcclmhgnplcaaDoorCeld
import Derived.Test.YtbkcclmhgnplcaaDoorCelg
import Derived.Test.YtbkcclmhgnplcaaDoorIsRow
namespace Go.Proofs.YtbkcclmhgnplcaaDoor
open Go.RowKit Go.Shelf
theorem infoU8 : (Tryd.prog.info? 5).map (fun i => (i.zero, i.size, i.bytes)) = some (some (.int .u8 0), 1, 1) := by kernel_rfl
def bys (xs : List Int) : List Value := xs.map (Value.int .u8)
def ByOk (xs : List Int) : Prop := ∀ x ∈ xs, 0 ≤ x ∧ x ≤ 255
/-- A row of bytes of the call's own. -/
def OB (B : Nat) (w : World) (v : Value) (xs : List Int) : Prop := w.ownsRow B 5 1 v xs.length (bys xs) ∧ ByOk xs
theorem OB.form {B : Nat} {w : World} {v : Value} {xs : List Int} (h : OB B w v xs) : ∃ P c, v = .slice P xs.length c ∧ Nums .u8 w P xs.length xs := by
  obtain ⟨P, c, hv, h1, h2, h3⟩ := own_form h.1
  refine ⟨P, c, hv, ⟨rfl, fun x hx => h.2 x hx, fun hn => ?_⟩⟩
  obtain ⟨g, rfl, _, hc⟩ := h3 hn
  exact ⟨_, rfl, fun j x hx => by rw [add0]; exact hc j _ (by simp [bys, hx])⟩
/-- Two rows of ints, two of bytes. -/
structure R4 (B : Nat) (W : World) (a b p q : Value) (xs ys us vs : List Int) : Prop where
  bs : B ≤ W.heap.size
  ra : OI B W a xs
  rb : OI B W b ys
  rp : OB B W p us
  rq : OB B W q vs
  ab : Ap a b
  pq : Ap p q
theorem R4.swap {B : Nat} {W : World} {a b p q : Value} {xs ys us vs : List Int} (h : R4 B W a b p q xs ys us vs) : R4 B W b a q p ys xs vs us := ⟨h.bs, h.rb, h.ra, h.rq, h.rp, h.ab.symm, h.pq.symm⟩
theorem ap_new {X : World} {B : Nat} {e : TypeId} {s n : Nat} {us : List Value} {v u u' : Value} {N : Nat} (ho : X.ownsRow B e s v n us) (ha : Ap u v) (hN : X.heap.size ≤ N) (hb : u'.ownBlock = u.ownBlock ∨ u'.ownBlock = some N) : Ap u' v := fun b h1 h2 => by
  rcases hb with e | e
  · rw [e] at h1; exact ha b h1 h2
  · rw [e] at h1
    injection h1 with h1
    have := (ho.lt b h2).2
    omega
theorem R4.int {B : Nat} {W : World} {a b p q : Value} {xs ys us vs : List Int} (h : R4 B W a b p q xs ys us vs) (x : Int) (hx : inK .i64 x) (hl : xs.length ≤ 1000000) :
    ∃ A c X, (Builtin.append_ #[22, 22] 22 #[a, .slice (some ⟨W.heap.size, 0, none⟩) 1 1]).run Tryd.prog (W.alloc (.cells #[.int .i64 x] 3)) = .ok (.slice A (xs.length + 1) c) X ∧
      R4 B X (.slice A (xs.length + 1) c) b p q (xs ++ [x]) ys us vs ∧ Below B W X := by
  obtain ⟨A, c, X, hrun, ho, hgr, hbl⟩ := app_own x h.ra hx hl h.bs
  have hal : Below W.heap.size W (W.alloc (.cells #[.int .i64 x] 3)) := (Below.refl _ _).alloc (Nat.le_refl _) _
  have ha1 := h.ra.below hal
  have hb1 := (h.rb.below hal).grownI h.ab.symm hgr
  have hp1 := own_stay (own_below h.rp.1 hal (Nat.le_refl _)) fun k hk => hgr.block k ((own_below h.rp.1 hal (Nat.le_refl _)).lt k hk).2 fun e => by
    rcases own_apart (own_below h.rp.1 hal (Nat.le_refl _)) ha1.1 (by decide) with h0 | h0
    · rw [h0] at hk; cases hk
    · exact h0 (by rw [hk, e])
  have hq1 := own_stay (own_below h.rq.1 hal (Nat.le_refl _)) fun k hk => hgr.block k ((own_below h.rq.1 hal (Nat.le_refl _)).lt k hk).2 fun e => by
    rcases own_apart (own_below h.rq.1 hal (Nat.le_refl _)) ha1.1 (by decide) with h0 | h0
    · rw [h0] at hk; cases hk
    · exact h0 (by rw [hk, e])
  have hbX : Below B W X := ((Below.refl B W).alloc h.bs _).grown hgr (by simp; have := h.bs; omega) fun k e => (ha1.1.lt k e).1
  exact ⟨A, c, X, hrun, ⟨Nat.le_trans h.bs hbX.size, ho, hb1, ⟨hp1, h.rp.2⟩, ⟨hq1, h.rq.2⟩, ap_new (X := W) h.rb.1 h.ab (Nat.le_succ _) hbl, h.pq⟩, hbX⟩
theorem R4.byte {B : Nat} {W : World} {a b p q : Value} {xs ys us vs : List Int} (h : R4 B W a b p q xs ys us vs) (x : Int) (hx : 0 ≤ x ∧ x ≤ 255) (hl : us.length ≤ 1000000) :
    ∃ A c X, (Builtin.append_ #[49, 49] 49 #[p, .slice (some ⟨W.heap.size, 0, none⟩) 1 1]).run Tryd.prog (W.alloc (.cells #[.int .u8 x] 5)) = .ok (.slice A (us.length + 1) c) X ∧
      R4 B X a b (.slice A (us.length + 1) c) q xs ys (us ++ [x]) vs ∧ Below B W X := by
  obtain ⟨i0, hi, hz0, hz1, hz2⟩ := info_parts infoU8
  have hal : Below W.heap.size W (W.alloc (.cells #[.int .u8 x] 5)) := (Below.refl _ _).alloc (Nat.le_refl _) _
  have hp0 := own_below h.rp.1 hal (Nat.le_refl _)
  obtain ⟨v', X, hrun, ho, hgr, _, hbl⟩ := run_append_own_at (P := Tryd.prog) (W.alloc (.cells #[.int .u8 x] 5)) B 49 49 5 i0 _ 1 1 Tryd.underlying49 hi hz0 hz1 hz2 rfl (by omega) p us.length (bys us) hp0 ⟨W.heap.size, 0, none⟩ 1 1 (bys [x]) (by simp [bys])
    (fun j w hw => by
      rw [add0, show (W.alloc (.cells #[.int .u8 x] 5)).cell? ⟨W.heap.size, j, none⟩ = #[.int .u8 x][j]? from cell_of_row _ _ _ _ 5 (0, 0) (heap_alloc_new W _)]
      simpa [bys] using hw) (fun u hu => by simp only [bys, List.map_cons, List.map_nil, List.mem_singleton] at hu; subst hu; rfl) (by simp only [maxLen]; omega) (by omega) (by simp; have := h.bs; omega)
  have ho2 : OB B X v' (us ++ [x]) := ⟨by rw [List.length_append]; simpa [bys] using ho, fun y hy => by
    rcases List.mem_append.1 hy with e | e
    · exact h.rp.2 y e
    · simp only [List.mem_singleton] at e
      subst e
      exact hx⟩
  obtain ⟨A, c, hv, -⟩ := ho2.form
  rw [List.length_append] at hv
  replace hv : v' = .slice A (us.length + 1) c := hv
  subst hv
  have keep : ∀ {z : Value} {zs : List Int}, OI B W z zs → OI B X z zs := fun o => ⟨own_stay (o.below hal).1 fun k hk => hgr.block k ((o.below hal).1.lt k hk).2 fun e => by
    rcases own_apart (o.below hal).1 hp0 (by decide) with h0 | h0
    · rw [h0] at hk; cases hk
    · exact h0 (by rw [hk, e]), o.2⟩
  have hq1 := own_stay (own_below h.rq.1 hal (Nat.le_refl _)) fun k hk => hgr.block k ((own_below h.rq.1 hal (Nat.le_refl _)).lt k hk).2 fun e => h.pq.symm k hk e.symm
  have hbX : Below B W X := ((Below.refl B W).alloc h.bs _).grown hgr (by simp; have := h.bs; omega) fun k e => (hp0.lt k e).1
  exact ⟨A, c, X, hrun, ⟨Nat.le_trans h.bs hbX.size, keep h.ra, keep h.rb, ho2, ⟨hq1, h.rq.2⟩, h.ab, ap_new (X := W) h.rq.1 h.pq (Nat.le_succ _) (by simpa using hbl)⟩, hbX⟩
theorem R4.below {B : Nat} {W W' : World} {a b p q : Value} {xs ys us vs : List Int} (h : R4 B W a b p q xs ys us vs) (hb : Below W.heap.size W W') : R4 B W' a b p q xs ys us vs :=
  ⟨Nat.le_trans h.bs hb.size, h.ra.below hb, h.rb.below hb, ⟨own_below h.rp.1 hb (Nat.le_refl _), h.rp.2⟩, ⟨own_below h.rq.1 hb (Nat.le_refl _), h.rq.2⟩, h.ab, h.pq⟩
theorem u8_lt {x y : Int} (hx : 0 ≤ x ∧ x ≤ 255) (hy : 0 ≤ y ∧ y ≤ 255) : (UInt8.ofNat x.toNat < UInt8.ofNat y.toNat) ↔ x < y := by
  rw [UInt8.lt_iff_toNat_lt]
  simp only [UInt8.toNat_ofNat']
  omega
theorem bytes_less : ∀ (xs ys : List Int), ByOk xs → ByOk ys → Op.bytesLess (xs.map fun n => UInt8.ofNat n.toNat) (ys.map fun n => UInt8.ofNat n.toNat) = decide (cmpL xs ys < 0)
  | [], [], _, _ => by simp [Op.bytesLess, cmpL]
  | [], _ :: _, _, _ => by simp [Op.bytesLess, cmpL]
  | _ :: _, [], _, _ => by simp [Op.bytesLess, cmpL]
  | x :: xs, y :: ys, hx, hy => by
    have h1 := hx x (by simp)
    have h2 := hy y (by simp)
    have ih := bytes_less xs ys (fun z hz => hx z (by simp [hz])) (fun z hz => hy z (by simp [hz]))
    have e1 := u8_lt h1 h2
    simp only [List.map_cons, Op.bytesLess, ih]
    rcases Int.lt_trichotomy x y with c | c | c
    · have d : cmpL (x :: xs) (y :: ys) < 0 := by
        unfold cmpL
        rw [if_neg (by have := cmpI_lt.2 c; omega)]
        exact cmpI_lt.2 c
      rw [decide_eq_true (e1.2 c), decide_eq_true d]
      rfl
    · subst c
      have d : cmpL (x :: xs) (x :: ys) = cmpL xs ys := by
        conv => lhs; unfold cmpL
        rw [if_pos (cmpI_self x)]
      rw [decide_eq_false (fun h => absurd (e1.1 h) (by omega)), d]
      simp
    · have d : ¬ cmpL (x :: xs) (y :: ys) < 0 := by
        unfold cmpL
        have hn : ¬ cmpI x y < 0 := fun h => absurd (cmpI_lt.1 h) (by omega)
        have hz : ¬ cmpI x y = 0 := fun h => absurd (cmpI_zero.1 h) (by omega)
        rw [if_neg hz]
        exact hn
      have hne : (UInt8.ofNat x.toNat == UInt8.ofNat y.toNat) = false := by
        rw [beq_eq_false_iff_ne]
        intro h
        have := congrArg UInt8.toNat h
        simp only [UInt8.toNat_ofNat'] at this
        omega
      rw [decide_eq_false (fun h => absurd (e1.1 h) (by omega)), decide_eq_false d, hne]
      rfl
set_option maxRecDepth 100000 in
set_option maxHeartbeats 8000000 in
theorem cellSorts_walk (a0 : Option Addr) (len0 cap0 : Nat) (z0 : List Int) (a1 : Option Addr) (len1 cap1 : Nat) (z1 : List Int) (w : World) (w0 : IsRow .i64 w a0 len0 cap0 z0) (w1 : IsRow .i64 w a1 len1 cap1 z1) (hT : Tab w) (hw1 : 1 < w.heap.size) :
    Calls Tryd.prog 15 #[.slice a0 len0 cap0, .slice a1 len1 cap1] w fun e w' => e = .returned (.bool true) ∧ Below w.heap.size w w' := by
  obtain ⟨n0, lc0, cm0⟩ := w0.nums
  obtain ⟨n1, lc1, cm1⟩ := w1.nums
  generalize z0.take len0 = xs at n0
  generalize z1.take len1 = ys at n1
  have N0 := Lib.hid n0
  have N1 := Lib.hid n1
  have HKn := Lib.hid (known_any w hT hw1)
  clear w0 w1 n0 n1 hT
  go_enter Tryd.func15, Tryd.ntmps15
  go_wp2_with fail
  refine HKn.out.mono ?_
  rintro e w2 ⟨rfl, hb1⟩
  have Hb := Lib.hid hb1
  clear hb1 HKn
  go_upto_block 0 with (fail)
  obtain ⟨nn, hnn, h20, hn0, hn1⟩ : ∃ nn : Nat, (if (20 : Int) < if len1 < len0 then (len1 : Int) else (len0 : Int) then (20 : Int) else if len1 < len0 then (len1 : Int) else (len0 : Int)) = (nn : Int) ∧ nn ≤ 20 ∧ nn ≤ len0 ∧ nn ≤ len1 := by
    refine ⟨min (min len0 len1) 20, ?_, by omega, by omega, by omega⟩
    split <;> split <;> omega
  rw [hnn]
  clear hnn
  obtain ⟨us, hus⟩ : ∃ us, us = xs.map (· % 16) := ⟨_, rfl⟩
  obtain ⟨vs, hvs⟩ : ∃ vs, vs = ys.map (· % 16) := ⟨_, rfl⟩
  have HUS := Lib.hid hus
  have HVS := Lib.hid hvs
  clear hus hvs
  go_cut [6, 7, 8, 9] (fun s6 s7 s8 s9 wx => R4 w.heap.size wx s6 s7 s8 s9 (us.take nn) (vs.take nn) (us.take nn) (vs.take nn) ∧ Below w.heap.size w wx)
  case first =>
    go_wp2_with fail
    go_loopw [6, 7, 8, 9, 10] (fun s6 s7 s8 s9 s10 wr => ∃ i : Nat, s10 = .int .i64 i ∧ i ≤ nn ∧ R4 w.heap.size wr s6 s7 s8 s9 (us.take i) (vs.take i) (us.take i) (vs.take i) ∧ Below w.heap.size w wr) (fun _ _ _ _ s10 _ => nn - (intOf s10).toNat)
    case atStart => exact ⟨0, rfl, Nat.zero_le _, ⟨Hb.out.size, OI.nil _ _, OI.nil _ _, ⟨World.ownsRow_nil _ _ _ _, (fun x h => by cases h)⟩, ⟨World.ownsRow_nil _ _ _ _, (fun x h => by cases h)⟩, (fun b h => by cases h), (fun b h => by cases h)⟩, Hb.out⟩
    case round =>
      rename World => wr
      obtain ⟨i, rfl, hi, hr, hb⟩ := hrel
      have HR := Lib.hid hr
      have HB := Lib.hid hb
      clear hr hb
      by_cases hlt : i < nn
      · have d1 : decide ((i : Int) < (nn : Int)) = true := decide_eq_true (by omega)
        have kk := Keeps.of_below HB.out
        obtain ⟨ad, x, rfl, hx, hxk, hxc⟩ := (N0.out.keep kk).at_ (k := i) (by omega)
        obtain ⟨bd, y, rfl, hy, hyk, hyc⟩ := (N1.out.keep kk).at_ (k := i) (by omega)
        have hux : us[i]? = some (x % 16) := by rw [HUS.out, List.getElem?_map, hx]; rfl
        have hvy : vs[i]? = some (y % 16) := by rw [HVS.out, List.getElem?_map, hy]; rfl
        have Wa := Lib.hid (fun W => lwithin2 x 16 W hxk (by omega) (by omega))
        have Wb := Lib.hid (fun W => lwithin2 y 16 W hyk (by omega) (by omega))
        have u1 : 0 ≤ x % 16 ∧ x % 16 < 16 := ⟨Int.emod_nonneg _ (by omega), Int.emod_lt_of_pos _ (by omega)⟩
        have v1 : 0 ≤ y % 16 ∧ y % 16 < 16 := ⟨Int.emod_nonneg _ (by omega), Int.emod_lt_of_pos _ (by omega)⟩
        obtain ⟨u, hu⟩ : ∃ u, u = x % 16 := ⟨_, rfl⟩
        obtain ⟨v, hv⟩ : ∃ v, v = y % 16 := ⟨_, rfl⟩
        simp only [← hu] at hux u1 Wa
        simp only [← hv] at hvy v1 Wb
        have cu : IntKind.u8.wrap u = u := by show u % 256 = u; omega
        have cv : IntKind.u8.wrap v = v := by show v % 256 = v; omega
        have tu : us.take (i + 1) = us.take i ++ [u] := by rw [List.take_add_one, hux]; rfl
        have tv : vs.take (i + 1) = vs.take i ++ [v] := by rw [List.take_add_one, hvy]; rfl
        have TU := Lib.hid tu
        have TV := Lib.hid tv
        have i0 : (0 : Int) ≤ (i : Int) := by omega
        have i1 : (i : Int) < (len0 : Int) := by omega
        have i2 : (i : Int) < (len1 : Int) := by omega
        have kw : Keeps wr wr.drew := (Keeps.refl wr).drewN 1
        clear hx hy hxk hyk hux hvy hu hv tu tv kk
        go_upto_region 9 with (fail)
        refine wp_region_held_drew (S := fun W => Keeps wr W) (by kernel_rfl) kw (fun hHeld => ?_)
        refine wpAnyH_take (i := 0) (v := ?va0) rfl (by kernel_rfl) (by kernel_rfl) (by kernel_rfl) (fun _ _ _ h => h) (Or.inl ⟨by rfl, ?ya0⟩) hHeld ?ra0
        case ya0 => (intro W hW; go_simp; first | done | with_reducible rfl)
        try simp only [List.getElem_toArray, List.getElem_cons_zero, Act.put, List.setIfInBounds_toArray, List.set_cons_zero, List.set_cons_succ]
        refine wpAnyH_take (i := 1) (v := ?va1) rfl (by kernel_rfl) (by kernel_rfl) (by kernel_rfl) (fun _ _ _ h => h) (Or.inl ⟨by rfl, ?ya1⟩) hHeld ?ra1
        case ya1 => (intro W hW; go_simp; first | done | with_reducible rfl)
        try simp only [List.getElem_toArray, List.getElem_cons_succ, List.getElem_cons_zero, Act.put, List.setIfInBounds_toArray, List.set_cons_zero, List.set_cons_succ]
        refine wpAnyH_take (i := 2) (v := ?va2) rfl (by kernel_rfl) (by kernel_rfl) (by kernel_rfl) (fun _ _ _ h => h) (Or.inl ⟨by rfl, ?ya2⟩) hHeld ?ra2
        case ya2 => (intro W hW; go_simp; first | done | with_reducible rfl)
        try simp only [List.getElem_toArray, List.getElem_cons_succ, List.getElem_cons_zero, Act.put, List.setIfInBounds_toArray, List.set_cons_zero, List.set_cons_succ]
        refine wpAnyH_take (i := 3) (v := ?va3) rfl (by kernel_rfl) (by kernel_rfl) (by kernel_rfl) (fun _ _ _ h => h) (Or.inl ⟨by rfl, ?ya3⟩) hHeld ?ra3
        case ya3 => (intro W hW; have g0 := hW _ _ hxc; have g1 := hW _ _ hyc; clear hW; go_simp; first | done | with_reducible rfl)
        try simp only [List.getElem_toArray, List.getElem_cons_succ, List.getElem_cons_zero, Act.put, List.setIfInBounds_toArray, List.set_cons_zero, List.set_cons_succ]
        refine wpAnyH_take (i := 5) (v := ?va5) rfl (by kernel_rfl) (by kernel_rfl) (by kernel_rfl) (fun _ _ _ h => h) (Or.inl ⟨by rfl, ?ya5⟩) hHeld ?ra5
        case ya5 => (intro W hW; go_simp; first | done | with_reducible rfl)
        try simp only [List.getElem_toArray, List.getElem_cons_succ, List.getElem_cons_zero, Act.put, List.setIfInBounds_toArray, List.set_cons_zero, List.set_cons_succ]
        refine wpAnyH_take (i := 6) (v := ?va6) rfl (by kernel_rfl) (by kernel_rfl) (by kernel_rfl) (fun _ _ _ h => h) (Or.inl ⟨by rfl, ?ya6⟩) hHeld ?ra6
        case ya6 => (intro W hW; go_simp; first | done | with_reducible rfl)
        try simp only [List.getElem_toArray, List.getElem_cons_succ, List.getElem_cons_zero, Act.put, List.setIfInBounds_toArray, List.set_cons_zero, List.set_cons_succ]
        refine wpAnyH_take (i := 7) (v := ?va7) rfl (by kernel_rfl) (by kernel_rfl) (by kernel_rfl) (fun _ _ _ h => h) (Or.inl ⟨by rfl, ?ya7⟩) hHeld ?ra7
        case ya7 => (intro W hW; go_simp; first | done | with_reducible rfl)
        try simp only [List.getElem_toArray, List.getElem_cons_succ, List.getElem_cons_zero, Act.put, List.setIfInBounds_toArray, List.set_cons_zero, List.set_cons_succ]
        refine wpAnyH_take (i := 8) (v := ?va8) rfl (by kernel_rfl) (by kernel_rfl) (by kernel_rfl) (fun _ _ _ h => h) (Or.inl ⟨by rfl, ?ya8⟩) hHeld ?ra8
        case ya8 => (intro W hW; have g0 := hW _ _ hxc; have g1 := hW _ _ hyc; clear hW; go_simp; first | done | with_reducible rfl)
        try simp only [List.getElem_toArray, List.getElem_cons_succ, List.getElem_cons_zero, Act.put, List.setIfInBounds_toArray, List.set_cons_zero, List.set_cons_succ]
        refine wpAnyH_ready (rs := [4]) (by kernel_rfl) (by simp) ?_
        refine AllReadyH.cons rfl (fun K hK => ?_) (AllReadyH.nil)
        go_simp
        refine (Wa.out _).mono ?_
        rintro e w8 ⟨rfl, rfl⟩
        refine hK.out _ _ (kw) (fun hHeld => ?_)
        clear hK K
        try simp only [List.getElem_toArray, List.getElem_cons_succ, List.getElem_cons_zero, Act.put, List.setIfInBounds_toArray, List.set_cons_zero, List.set_cons_succ]
        refine wpAnyH_ready (rs := [9]) (by kernel_rfl) (by simp) ?_
        refine AllReadyH.cons rfl (fun K hK => ?_) (AllReadyH.nil)
        go_simp
        refine (Wb.out _).mono ?_
        rintro e w8 ⟨rfl, rfl⟩
        refine hK.out _ _ (kw) (fun hHeld => ?_)
        clear hK K
        try simp only [List.getElem_toArray, List.getElem_cons_succ, List.getElem_cons_zero, Act.put, List.setIfInBounds_toArray, List.set_cons_zero, List.set_cons_succ]
        refine wpAnyH_take (i := 10) (v := ?va10) rfl (by kernel_rfl) (by kernel_rfl) (by kernel_rfl) (fun _ _ _ h => h) (Or.inl ⟨by rfl, ?ya10⟩) hHeld ?ra10
        case ya10 => (intro W hW; go_simp; first | done | with_reducible rfl)
        try simp only [List.getElem_toArray, List.getElem_cons_succ, List.getElem_cons_zero, Act.put, List.setIfInBounds_toArray, List.set_cons_zero, List.set_cons_succ]
        refine wpAnyH_take (i := 11) (v := ?va11) rfl (by kernel_rfl) (by kernel_rfl) (by kernel_rfl) (fun _ _ _ h => h) (Or.inl ⟨by rfl, ?ya11⟩) hHeld ?ra11
        case ya11 => (intro W hW; go_simp; first | done | with_reducible rfl)
        try simp only [List.getElem_toArray, List.getElem_cons_succ, List.getElem_cons_zero, Act.put, List.setIfInBounds_toArray, List.set_cons_zero, List.set_cons_succ]
        refine wpAnyH_done (by kernel_rfl) ?_ _
        have hr0 := HR.out.below (W' := wr.drew) (below_drewN (Below.refl _ wr) 1)
        have hl1 : (us.take i).length ≤ 1000000 := by rw [List.length_take]; omega
        have hl2 : (vs.take i).length ≤ 1000000 := by rw [List.length_take]; omega
        obtain ⟨A1, c1, X1, r1, R1, B1⟩ := hr0.int u ⟨by show (-9223372036854775808 : Int) ≤ u; omega, by show u ≤ 9223372036854775807; omega⟩ hl1
        obtain ⟨A2, c2, X2, r2, R2, B2⟩ := R1.swap.int v ⟨by show (-9223372036854775808 : Int) ≤ v; omega, by show v ≤ 9223372036854775807; omega⟩ hl2
        obtain ⟨A3, c3, X3, r3, R3, B3⟩ := R2.swap.byte u ⟨u1.1, by omega⟩ hl1
        obtain ⟨A4, c4, X4, r4, R4', B4⟩ := R3.swap.byte v ⟨v1.1, by omega⟩ hl2
        have R5 := R4'.swap
        rw [← TU.out, ← TV.out] at R5
        have hbF : Below w.heap.size w X4 := (((below_drewN HB.out 1).trans B1).trans B2).trans (B3.trans B4)
        obtain ⟨n1, hn1⟩ : ∃ n, n = (us.take i).length + 1 := ⟨_, rfl⟩
        obtain ⟨n2, hn2⟩ : ∃ n, n = (vs.take i).length + 1 := ⟨_, rfl⟩
        rw [← hn1] at r1 r3 R5
        rw [← hn2] at r2 r4 R5
        have H1 := Lib.hid r1
        have H2 := Lib.hid r2
        have H3 := Lib.hid r3
        have H4 := Lib.hid r4
        have HR5 := Lib.hid R5
        have HBF := Lib.hid hbF
        clear r1 r2 r3 r4 R1 R2 R3 R4' R5 B1 B2 B3 B4 hr0 hl1 hl2 hn1 hn2 hbF
        go_wp2_with (first | (at_builtin; have _t := H1; refine wpList_append_eq rfl (.tmp 36) (.tmp 38) 22 rfl _ _ _ _ rfl rfl H1.out ?_; clear _t H1) | (at_builtin; have _t := H2; refine wpList_append_eq rfl (.tmp 40) (.tmp 42) 22 rfl _ _ _ _ rfl rfl H2.out ?_; clear _t H2) | (at_builtin; have _t := H3; refine wpList_append_eq rfl (.tmp 44) (.tmp 47) 49 rfl _ _ _ _ rfl rfl H3.out ?_; clear _t H3) | (at_builtin; have _t := H4; refine wpList_append_eq rfl (.tmp 49) (.tmp 52) 49 rfl _ _ _ _ rfl rfl H4.out ?_; clear _t H4))
        go_roundw
        case rel => exact ⟨i + 1, by go_num, by omega, HR5.out, HBF.out⟩
        case measure => simp [intOf]; omega
      · obtain rfl : i = nn := by omega
        have d1 : decide ((i : Int) < (i : Int)) = false := by simp
        go_wp2
        go_meet
        exact ⟨HR.out, HB.out⟩
  case rest =>
    rename World => wx
    obtain ⟨hr, hb⟩ := hcut
    obtain ⟨P6, c6, f6, -, -, m6, -⟩ := hr.ra.form
    obtain ⟨P7, c7, f7, -, -, m7, -⟩ := hr.rb.form
    obtain ⟨P8, c8, f8, m8⟩ := hr.rp.form
    obtain ⟨P9, c9, f9, m9⟩ := hr.rq.form
    have hlu : (us.take nn).length ≤ 20 := by rw [List.length_take]; omega
    have hlv : (vs.take nn).length ≤ 20 := by rw [List.length_take]; omega
    have hls := less_any _ _ _ _ wx hr.ra.ri hr.rb.ri (by omega) (by omega)
    have hri2 := fun (W : World) (hW : Keeps wx W) => rInts P6 P7 _ _ c6 c7 (us.take nn) (vs.take nn) W (m6.keep hW) (m7.keep hW) (by omega)
    have cv8 : (convert 49 9 (.slice P8 (us.take nn).length c8)).run Tryd.prog wx = .ok (.string (strOf (us.take nn))) wx := conv_str _ _ _ Tryd.underlying49 Tryd.underlying5 Tryd.underlying9 _ _ _ _ _ m8
    have cv9 : (convert 49 9 (.slice P9 (vs.take nn).length c9)).run Tryd.prog wx = .ok (.string (strOf (vs.take nn))) wx := conv_str _ _ _ Tryd.underlying49 Tryd.underlying5 Tryd.underlying9 _ _ _ _ _ m9
    have hby : Op.bytesLess (strOf (us.take nn)).toList (strOf (vs.take nn)).toList = decide (cmpL (us.take nn) (vs.take nn) < 0) := by
      rw [strOf_list, strOf_list]
      exact bytes_less _ _ hr.rp.2 hr.rq.2
    have hz : (cmpL (us.take nn) (vs.take nn) == 0) = decide (us.take nn = vs.take nn) := by
      rw [Bool.eq_iff_iff, beq_iff_eq, decide_eq_true_iff]
      exact cmpL_zero
    rw [f6, f7] at hls
    subst f6 f7 f8 f9
    generalize us.take nn = U at *
    generalize vs.take nn = V at *
    obtain ⟨lu, hlu'⟩ : ∃ q, q = U.length := ⟨_, rfl⟩
    obtain ⟨lv, hlv'⟩ : ∃ q, q = V.length := ⟨_, rfl⟩
    rw [← hlu'] at cv8 hls hri2 ⊢
    rw [← hlv'] at cv9 hls hri2 ⊢
    have Hls := Lib.hid hls
    have Hri := Lib.hid hri2
    have HB := Lib.hid hb
    obtain ⟨cmp, hcmp⟩ : ∃ q, q = cmpL U V := ⟨_, rfl⟩
    rw [← hcmp] at hby hz Hls
    clear hr hb m6 m7 m8 m9 hls hri2 hlu hlv hlu' hlv' hcmp
    go_wp2_with fail
    refine Hls.out.mono ?_
    rintro e w8 ⟨rfl, rfl⟩
    go_wp2_with fail
    refine (Hri.out _ (Keeps.refl _)).mono ?_
    rintro e w9 ⟨rfl, nq, rfl⟩
    go_wp2
    go_ret
    refine ⟨?_, (by first | exact HB.out | exact below_drewN HB.out _)⟩
    first | rfl | (rw [hz]; simp)
end Go.Proofs.YtbkcclmhgnplcaaDoor
