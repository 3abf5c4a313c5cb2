/- The law LatticeTrue. -/
import Derived.Test.YtaopanclnaimpaaDoorL8
import Derived.IntWalk
import Derived.Test.YtaopanclnaimpaaDoorTrueP
import Derived.Test.YtaopanclnaimpaaDoorRset
import Derived.Test.YtaopanclnaimpaaDoorRints
namespace Go.Proofs.YtaopanclnaimpaaDoor
open Go.RowKit Go.Shelf
attribute [local go_sem] Oper.semAt_some
theorem infoS : (Tryd.prog.info? 22).map (fun i => (i.zero, i.size, i.bytes)) = some (some (.slice none 0 0), 1, 24) := by kernel_rfl
theorem append_sl (wr : World) (B : Nat) (v : Value) (vs : List Value) (u : Value) (hu : u.oneCell' = true) (h : wr.ownsRow B 22 1 v vs.length vs) (hn : vs.length ≤ 1000) (hB : B ≤ wr.heap.size) :
    ∃ v' w', (Builtin.append_ #[40, 40] 40 #[v, .slice (some ⟨wr.heap.size, 0, none⟩) 1 1]).run Tryd.prog (wr.alloc (.cells #[u] 22)) = .ok v' w' ∧ w'.ownsRow B 22 1 v' (vs ++ [u]).length (vs ++ [u]) ∧ (wr.alloc (.cells #[u] 22)).grownBy w' v.ownBlock := by
  obtain ⟨i0, hi, hz0, hz1, hz2⟩ := info_parts infoS
  obtain ⟨v', w', hrun, ho, hgr, _, _⟩ := run_append_own_at (P := Tryd.prog) (wr.alloc (.cells #[u] 22)) B 40 40 22 i0 _ 1 24 Tryd.underlying40 hi hz0 hz1 hz2 rfl (by omega) v vs.length vs (h.alloc _)
    ⟨wr.heap.size, 0, none⟩ 1 1 [u] rfl (fun j x hx => by
      rw [add0, show (wr.alloc (.cells #[u] 22)).cell? ⟨wr.heap.size, j, none⟩ = #[u][j]? from cell_of_row _ _ _ _ 22 (0, 0) (heap_alloc_new wr _)]
      simpa using hx)
    (by intro x hx; simp at hx; subst hx; exact hu) (by simp [maxLen]; omega) (by omega) (by simp; omega)
  exact ⟨v', w', hrun, by rw [List.length_append]; exact ho, hgr⟩
/-- Rows of numbers of the call's own, in a row. -/
structure KS (B : Nat) (w : World) (v : Value) (vs : List Value) (L : List (List Int)) : Prop where
  row : w.ownsRow B 22 1 v vs.length vs
  len : vs.length = L.length
  all : ∀ (i : Nat) (u : Value) (x : List Int), vs[i]? = some u → L[i]? = some x → OI B w u x
theorem KS.below {B : Nat} {w w' : World} {v : Value} {vs : List Value} {L : List (List Int)} (h : KS B w v vs L) (hb : Below w.heap.size w w') : KS B w' v vs L :=
  ⟨own_below h.row hb (Nat.le_refl _), h.len, fun i u x h1 h2 => (h.all i u x h1 h2).below hb⟩
theorem OI.one {B : Nat} {w : World} {v : Value} {xs : List Int} (h : OI B w v xs) : v.oneCell' = true := by
  obtain ⟨P, c, rfl, -⟩ := h.form
  rfl
theorem KS.snoc {B : Nat} {w : World} {v u : Value} {vs : List Value} {L : List (List Int)} {x : List Int} (h : KS B w v vs L) (hu : OI B w u x) (hn : vs.length ≤ 1000) (hB : B ≤ w.heap.size) :
    ∃ v' w', (Builtin.append_ #[40, 40] 40 #[v, .slice (some ⟨w.heap.size, 0, none⟩) 1 1]).run Tryd.prog (w.alloc (.cells #[u] 22)) = .ok v' w' ∧ KS B w' v' (vs ++ [u]) (L ++ [x]) ∧ Below B w w' := by
  obtain ⟨v', w', hrun, ho, hgr⟩ := append_sl w B v vs u hu.one h.row hn hB
  have hal : Below w.heap.size w (w.alloc (.cells #[u] 22)) := (Below.refl _ w).alloc (Nat.le_refl _) _
  have h2 := h.below hal
  have hu2 := hu.below hal
  refine ⟨v', w', hrun, ⟨ho, by simp [h.len], fun i y z h3 h4 => ?_⟩, (hal.mono hB).trans (below_grown hgr h2.row (by simp; omega))⟩
  have key : ∀ {y z}, OI B (w.alloc (.cells #[u] 22)) y z → OI B w' y z := fun h => ⟨own_kept h.1 hgr h2.row (by decide), h.2⟩
  rcases Nat.lt_or_ge i vs.length with hlt | hge
  · rw [List.getElem?_append_left hlt] at h3
    rw [List.getElem?_append_left (by rw [← h.len]; exact hlt)] at h4
    exact key (h2.all i y z h3 h4)
  · rw [List.getElem?_append_right hge] at h3
    rw [List.getElem?_append_right (by rw [← h.len]; exact hge), ← h.len] at h4
    have e0 : i - vs.length = 0 := by
      rcases Nat.eq_zero_or_pos (i - vs.length) with h | h
      · exact h
      · rw [List.getElem?_eq_none (by simp; omega)] at h3; cases h3
    rw [e0] at h3 h4
    simp at h3 h4
    subst h3 h4
    exact key hu2
theorem keysB_get : ∀ {cs vs : List Int}, keysB cs vs = true → ∀ i, i < cs.length → 0 ≤ vs.getD i 0 ∧ vs.getD i 0 < cs.getD i 0
  | c :: cs, v :: vs, h, 0, _ => by
    simp only [keysB, Bool.and_eq_true, decide_eq_true_eq] at h
    simpa using h.1
  | c :: cs, v :: vs, h, i + 1, hi => by
    simp only [keysB, Bool.and_eq_true] at h
    simpa using keysB_get h.2 i (by simpa using hi)
  | [], _, _, i, hi => by simp at hi
  | _ :: _, [], h, _, _ => by simp [keysB] at h
theorem right_keyIn {cs : List Int} {me : Int} {l : List Fact} (h : allRightB cs me l = true) : ∀ r ∈ l, KeyIn cs r.key := by
  intro r hr i hi
  have h1 : rightB cs me r = true := by
    have h2 : l.all (rightB cs me) = true := by unfold allRightB at h; simp at h; simpa using h.2
    exact List.all_eq_true.1 h2 r hr
  have h3 : keysB cs r.key = true := rightB_key h1
  exact keysB_get h3 i hi
set_option maxRecDepth 100000 in
set_option maxHeartbeats 8000000 in
theorem latticeTrue_walk (a0 : Int) (a1 : Option Addr) (len1 cap1 : Nat) (z1 : List Int) (a2 : Option Addr) (len2 cap2 : Nat) (z2 : List Int) (a3 : Int) (w : World) (h0 : inK .i64 a0) (w1 : IsRow .i64 w a1 len1 cap1 z1) (w2 : IsRow .i64 w a2 len2 cap2 z2) (h3 : inK .i64 a3) (hT : Tab w) (hw1 : 1 < w.heap.size) :
    Calls Tryd.prog 6 #[.int .i64 a0, .slice a1 len1 cap1, .slice a2 len2 cap2, .int .i64 a3] w fun e w' => e = .returned (.bool true) ∧ Below w.heap.size w w' := by
  obtain ⟨n1, lc1, cm1⟩ := w1.nums
  obtain ⟨n2, lc2, cm2⟩ := w2.nums
  have N2 := Lib.hid n2
  clear w2 n2
  have N1 := Lib.hid n1
  have HKn := Lib.hid (known8_any w hT hw1)
  have HT := Lib.hid hT
  clear w1 n1 hT
  go_enter Tryd.func6, Tryd.ntmps6
  go_wp2_with fail
  refine HKn.out.mono ?_
  rintro e w1 ⟨rfl, hb1⟩
  have Hb1 := Lib.hid hb1
  clear hb1 HKn
  go_wp2_with fail
  refine (Facts_res a0 0 a1 a2 len1 cap1 len2 cap2 _ _ w1 (N1.out.keep (Keeps.of_below Hb1.out)) (N2.out.keep (Keeps.of_below Hb1.out)) (by omega) (by omega) h0 (by constructor <;> omega)).mono ?_
  rintro e w2 ⟨A, c, D, d, C, q, mm, m, cs, l, rfl, hF⟩
  obtain ⟨k1, k2, k3⟩ : 1 ≤ q ∧ q ≤ 4 ∧ mm ≤ 2 := ⟨hF.q1, hF.q4, hF.m2⟩
  have hb2 : Below w.heap.size w w2 := Hb1.out.trans (hF.below.mono Hb1.out.size)
  have CS := Lib.hid hF.c16
  have NQ := Lib.hid hF.nums
  have HLQ := Lib.hid hF.eq
  have hb3 : Below w.heap.size w (w2.alloc (.cells #[.slice A q c, .int .i64 mm] 25)) := hb2.alloc hb2.size _
  have hbx : Box2 25 (w2.alloc (.cells #[.slice A q c, .int .i64 mm] 25)) w2.heap.size (.slice A q c) (.int .i64 mm) := Box2.new _ _ _ _
  have hnq : Nums .i64 (w2.alloc (.cells #[.slice A q c, .int .i64 mm] 25)) A q cs := hF.nums.keep (Keeps.of_below ((Below.refl _ w2).alloc (Nat.le_refl _) _))
  have hfk : Facts (w2.alloc (.cells #[.slice A q c, .int .i64 mm] 25)) D m l := hF.facts.keep (Keeps.of_below ((Below.refl _ w2).alloc (Nat.le_refl _) _))
  have HFC := Lib.hid hfk
  have HKI := Lib.hid (right_keyIn hF.right)
  have HSM := Lib.hid (show ∀ r ∈ l, r.key.length = q ∧ ∀ x ∈ r.key, inK .i64 x from fun r hr => ⟨(hF.lens r hr).1, (hF.small r hr).1⟩)
  have m40 := hF.m40
  have HML := Lib.hid hF.em
  clear hfk
  have h31 : 1 < (w2.alloc (.cells #[.slice A q c, .int .i64 mm] 25)).heap.size := by have := hb3.size; omega
  have HB3 := Lib.hid hb3
  have HBX := Lib.hid hbx
  have HNQ := Lib.hid hnq
  obtain ⟨W3, hW3⟩ : ∃ W3, W3 = w2.alloc (.cells #[.slice A q c, .int .i64 mm] 25) := ⟨_, rfl⟩
  rw [← hW3] at HB3 HBX HNQ h31
  have HW3 := Lib.hid hW3
  have HT3 := Lib.hid (HT.out.below HB3.out hw1)
  have hg3 := HBX.out.lt
  obtain ⟨s1, s2⟩ := set8_bd a3 q k1 k2
  have hsh := shl_wrap q k2
  have hsp := pow_bd q k2
  have HWI := Lib.hid (lwithin8 a3 (2 ^ q) W3 h3 hsp.1 (Int.le_trans hsp.2 (by decide)))
  obtain ⟨k, hk⟩ : ∃ k, k = a3 % 2 ^ q := ⟨_, rfl⟩
  rw [← hk] at HWI s1 s2
  obtain ⟨gb, hgb⟩ : ∃ gb, gb = w2.heap.size := ⟨_, rfl⟩
  rw [← hgb] at HBX hg3
  have HGB := Lib.hid hgb
  have c0 := HBX.out.cell0
  have c1 := HBX.out.cell1
  rw [← hW3] at HFC
  clear hF hnq hb3 hb2 hbx hk hW3 hgb
  have HZ := Lib.hid (fun (W : World) (hb : Below W3.heap.size W3 W) => size_any A q c mm cs m k W (HNQ.out.keep (Keeps.of_below hb)) k1 k2 k3 CS.out (by omega) (by omega) s1 s2 (HT3.out.below hb h31) (Nat.lt_of_lt_of_le h31 hb.size))
  have hk15 : k ≤ 15 := by have := fullB_15 q k2; omega
  go_wp2_with fail
  rw [← HW3.out, ← HGB.out]
  have c0 := HBX.out.cell0
  have c1 := HBX.out.cell1
  go_wp2_with fail
  refine HWI.out.mono ?_
  rintro e w' ⟨rfl, rfl⟩
  go_wp2_with fail
  go_loopw [12, 13] (fun v i wr => ∃ (j : Nat) (vs : List Value) (R : List (List Int)), i = .int .i64 j ∧ j ≤ m ∧ KS W3.heap.size wr v vs (R.map fun r => pk r k q) ∧ (R.map fun r => pk r k q).Nodup ∧ (∀ r ∈ R, KeyIn cs r) ∧ R.length ≤ j ∧ Below W3.heap.size W3 wr) (fun _ i _ => m - (intOf i).toNat)
  case atStart => exact ⟨0, [], [], rfl, Nat.zero_le _, ⟨World.ownsRow_nil _ _ _ _, rfl, fun i u x h => by simp at h⟩, List.nodup_nil, (fun r h => by cases h), Nat.le_refl _, Below.refl _ _⟩
  case round =>
    obtain ⟨j, vs, R, rfl, hj, hks, hnd, hki, hrl, hb⟩ := hrel
    rename World => wr
    rename Value => v
    have HK := Lib.hid hks
    have HB := Lib.hid hb
    have HND := Lib.hid hnd
    have HKR := Lib.hid hki
    have hvl : vs.length = R.length := by rw [hks.len, List.length_map]
    have hx := HBX.out.below hb hg3
    have d0 := hx.cell0
    have d1 := hx.cell1
    obtain ⟨Pv, cv, hvf, -⟩ := own_form hks.row
    rw [hvl] at hvf
    clear hks hb hnd hki hx
    by_cases hlt : j < m
    · subst hvf
      obtain ⟨rd, r, rfl, hr, hrow⟩ := (HFC.out.keep (Keeps.of_below HB.out)).at_ hlt
      obtain ⟨hrq, hrk⟩ := HSM.out r (List.mem_of_getElem? hr)
      have HRI := Lib.hid (HKI.out r (List.mem_of_getElem? hr))
      obtain ⟨Pk, ck, Pm, cm, hr0, -, hrn, -⟩ := hrow
      rw [hrq] at hr0 hrn
      have HRN := Lib.hid hrn
      have HR0 := Lib.hid hr0
      have HRK := Lib.hid hrk
      have j0 : (0 : Int) ≤ (j : Int) := by omega
      have j1 : (j : Int) < (m : Int) := by omega
      clear hr hrn hrk hr0
      go_wp2
      go_loopw [14, 15] (fun u i wq => ∃ t : Nat, i = .int .i64 t ∧ t ≤ q ∧ OI wr.heap.size wq u (pk r.key k t) ∧ Below wr.heap.size wr wq) (fun _ i _ => q - (intOf i).toNat)
      case atStart => exact ⟨0, rfl, Nat.zero_le _, OI.nil _ _, Below.refl _ _⟩
      case round =>
        obtain ⟨t, rfl, ht, hoi, hbq⟩ := hrel
        rename World => wq
        rename Value => u
        have HOI := Lib.hid hoi
        have HBQ := Lib.hid hbq
        have Kq := Keeps.of_below hbq
        have e0 := Kq _ _ d0
        have e1 := Kq _ _ d1
        have er := Kq _ _ HR0.out
        have HRQ := Lib.hid (HRN.out.keep Kq)
        clear hoi hbq Kq
        by_cases htl : t < q
        · obtain ⟨q1, q2⟩ := shr_in k t s1 hk15 (by omega)
          have hbo := bit_one _ q1 q2
          obtain ⟨kd, y, rfl, hy, hyk, hyc⟩ := HRQ.out.at_ htl
          have t0 : (0 : Int) ≤ (t : Int) := by omega
          have t1 : (t : Int) < (q : Int) := by omega
          by_cases hbit : k / 2 ^ t % 2 = 1
          · have e : pk r.key k (t + 1) = pk r.key k t ++ [y] := by
              rw [pk, if_pos hbit, List.getD_eq_getElem?_getD, hy]; rfl
            have E := Lib.hid e
            have d1' : (bits .and .i64 (k / 2 ^ t) 1 == 1) = true := by rw [hbo, hbit]; rfl
            obtain ⟨v', w', hrun, ho', hb'⟩ := oi_append y HOI.out hyk (by have := pk_le r.key k t; omega) HBQ.out.size
            have Hrun := Lib.hid hrun
            have HO' := Lib.hid ho'
            have HB' := Lib.hid (HBQ.out.trans hb')
            clear hbo hbit e hy hyk hrun ho' hb'
            go_wp2_with (at_builtin; have _t := Hrun; refine wpList_append_eq rfl (.tmp 53) (.tmp 62) 22 rfl _ _ _ _ rfl rfl Hrun.out ?_; clear _t Hrun)
            go_roundw
            case rel => exact ⟨t + 1, by go_num, by omega, by rw [E.out]; exact HO'.out, HB'.out⟩
            case measure => simp [intOf]; omega
          · have e : pk r.key k (t + 1) = pk r.key k t := by rw [pk, if_neg hbit]
            have E := Lib.hid e
            have d1' : (bits .and .i64 (k / 2 ^ t) 1 == 1) = false := by rw [hbo]; simpa using hbit
            clear hbo hbit e hy hyk
            go_wp2
            go_roundw
            case rel => exact ⟨t + 1, by go_num, by omega, by rw [E.out]; exact HOI.out, HBQ.out⟩
            case measure => simp [intOf]; omega
        · obtain rfl : t = q := by omega
          obtain ⟨Pu, cu, rfl, -, -, hun, -⟩ := HOI.out.form
          have HUN := Lib.hid hun
          obtain ⟨key, hkey⟩ : ∃ key, key = pk r.key k t := ⟨_, rfl⟩
          rw [← hkey] at HUN HOI ⊢
          have hkl : key.length ≤ 4 := by rw [hkey]; have := pk_le r.key k t; omega
          have HKEY := Lib.hid hkey
          have HKQ := Lib.hid (HK.out.below HBQ.out)
          obtain ⟨nr, hnr⟩ : ∃ nr, nr = R.length := ⟨_, rfl⟩
          rw [← hnr] at hrl hvl HKQ ⊢
          have HNR := Lib.hid hnr
          clear hun hkey hnr
          go_wp2
          go_loopw [16, 17] (fun s i wz => ∃ p : Nat, i = .int .i64 p ∧ p ≤ nr ∧ s = .bool (decide (key ∈ (R.map fun r => pk r k t).take p)) ∧ Below wq.heap.size wq wz) (fun _ i _ => nr - (intOf i).toNat)
          case atStart => exact ⟨0, rfl, Nat.zero_le _, by simp, Below.refl _ _⟩
          case round =>
            obtain ⟨p, rfl, hp, rfl, hbz⟩ := hrel
            rename World => wz
            have HBZ := Lib.hid hbz
            have HKZ := Lib.hid (HKQ.out.below hbz)
            have HUZ := Lib.hid (HUN.out.keep (Keeps.of_below hbz))
            clear hbz
            by_cases hpl : p < nr
            · obtain ⟨x, hx⟩ : ∃ x, (R.map fun r => pk r k t)[p]? = some x := ⟨_, List.getElem?_eq_getElem (by rw [List.length_map, ← HNR.out]; exact hpl)⟩
              obtain ⟨uv, huv⟩ : ∃ uv, vs[p]? = some uv := ⟨_, List.getElem?_eq_getElem (by rw [hvl]; exact hpl)⟩
              have hox := HKZ.out.all p uv x huv hx
              obtain ⟨Px, cx, hxf, -, -, hxn, -⟩ := hox.form
              have hx4 : x.length = key.length := by
                rw [List.getElem?_map, Option.map_eq_some_iff] at hx
                obtain ⟨a, _, rfl⟩ := hx
                rw [HKEY.out]
                exact pk_same _ _ _ _
              have htk : (R.map fun r => pk r k t).take (p + 1) = (R.map fun r => pk r k t).take p ++ [x] := by rw [List.take_add_one, hx]; rfl
              obtain ⟨gv, _, hgv, hcv⟩ : ∃ gv, W3.heap.size ≤ gv ∧ Pv = some ⟨gv, 0, none⟩ ∧ ∀ i u, vs[i]? = some u → wz.cell? ⟨gv, i, none⟩ = some u := by
                obtain ⟨P', c', e, -, -, h3⟩ := own_form HKZ.out.row
                obtain ⟨g', e2, h4, h5⟩ := h3 (by omega)
                injection e with e _ _
                exact ⟨g', h4, e.trans e2, h5⟩
              have hcp := hcv p uv huv
              subst hxf hgv
              have p0 : (0 : Int) ≤ (p : Int) := by omega
              have p1 : (p : Int) < (nr : Int) := by omega
              have HTK := Lib.hid htk
              have HXN := Lib.hid hxn
              by_cases hin : key ∈ (R.map fun r => pk r k t).take p
              · have di : decide (key ∈ (R.map fun r => pk r k t).take p) = true := decide_eq_true hin
                have do_ : decide (key ∈ (R.map fun r => pk r k t).take (p + 1)) = true := decide_eq_true (by rw [HTK.out]; simp [hin])
                have DO := Lib.hid do_
                rw [di]
                clear hin do_ htk hx huv hox hxn di
                go_wp2
                go_roundw
                case rel => exact ⟨p + 1, by go_num, by omega, by rw [DO.out], HBZ.out⟩
                case measure => simp [intOf]; omega
              · have di : decide (key ∈ (R.map fun r => pk r k t).take p) = false := decide_eq_false hin
                have do_ : decide (key ∈ (R.map fun r => pk r k t).take (p + 1)) = decide (x = key) := by
                  rw [HTK.out]
                  by_cases hxk : x = key
                  · subst hxk; simp
                  · simp [hin, hxk]; exact fun e => hxk e.symm
                have DO := Lib.hid do_
                have HI := Lib.hid (rInts Px Pu x.length key.length cx cu x key wz HXN.out HUZ.out (by omega))
                obtain ⟨lx, hlx⟩ : ∃ lx, lx = x.length := ⟨_, rfl⟩
                rw [← hlx] at HI hcp
                obtain ⟨bx, hbx⟩ : ∃ bx, bx = decide (x = key) := ⟨_, rfl⟩
                rw [← hbx] at HI DO
                rw [di]
                clear hin do_ htk hx huv hox hxn di hlx hbx hx4 hcv HXN
                go_wp2_with fail
                refine HI.out.mono ?_
                rintro e w5 ⟨rfl, q5, rfl⟩
                go_wp2
                go_roundw
                case rel => exact ⟨p + 1, by go_num, by omega, by rw [DO.out], below_drewN HBZ.out q5⟩
                case measure => simp [intOf]; omega
            · obtain rfl : p = nr := by omega
              have htk : (R.map fun r => pk r k t).take p = R.map fun r => pk r k t := by rw [HNR.out]; exact List.take_of_length_le (by simp)
              rw [htk]
              have hbr : Below W3.heap.size W3 wz := HB.out.trans ((HBQ.out.trans (HBZ.out.mono HBQ.out.size)).mono HB.out.size)
              have HBR := Lib.hid hbr
              by_cases hin : key ∈ R.map fun r => pk r k t
              · have di : decide (key ∈ R.map fun r => pk r k t) = true := decide_eq_true hin
                rw [di]
                clear hin di htk hbr
                go_wp2
                go_roundw
                case rel => exact ⟨j + 1, vs, R, by go_num, by omega, HKZ.out, HND.out, HKR.out, by rw [← HNR.out]; omega, HBR.out⟩
                case measure => simp [intOf]; omega
              · have di : decide (key ∈ R.map fun r => pk r k t) = false := decide_eq_false hin
                rw [di]
                have hoz : OI W3.heap.size wz (.slice Pu key.length cu) key := (HOI.out.below HBZ.out).mono (by exact HB.out.size)
                obtain ⟨v', w', hrun, hks', hb'⟩ := HKZ.out.snoc hoz (by omega) HBR.out.size
                have hnew : KS W3.heap.size w' v' (vs ++ [.slice Pu key.length cu]) ((R ++ [r.key]).map fun r => pk r k t) ∧ ((R ++ [r.key]).map fun r => pk r k t).Nodup ∧ (∀ x ∈ R ++ [r.key], KeyIn cs x) := by
                  rw [List.map_append, List.map_cons, List.map_nil, ← HKEY.out]
                  refine ⟨hks', ?_, fun x hx => ?_⟩
                  · rw [List.nodup_append]
                    refine ⟨HND.out, by simp, fun a ha b hb => ?_⟩
                    simp only [List.mem_singleton] at hb
                    subst hb
                    exact fun e => hin (e ▸ ha)
                  · rcases List.mem_append.1 hx with h | h
                    · exact HKR.out x h
                    · simp only [List.mem_singleton] at h; subst h; exact HRI.out
                have HNEW := Lib.hid hnew
                have Hrun := Lib.hid hrun
                have HB' := Lib.hid (HBR.out.trans hb')
                obtain ⟨lk, hlk⟩ : ∃ lk, lk = key.length := ⟨_, rfl⟩
                rw [← hlk] at Hrun HNEW ⊢
                clear hin di htk hbr hoz hrun hks' hb' hnew hlk
                go_wp2_with (at_builtin; have _t := Hrun; refine wpList_append_eq rfl (.tmp 81) (.tmp 83) 40 rfl _ _ _ _ rfl rfl Hrun.out ?_; clear _t Hrun)
                go_roundw
                case rel => exact ⟨j + 1, _, R ++ [r.key], by go_num, by omega, HNEW.out.1, HNEW.out.2.1, HNEW.out.2.2, by rw [List.length_append, ← HNR.out]; simp; omega, HB'.out⟩
                case measure => simp [intOf]; omega
    · obtain rfl : j = m := by omega
      subst hvf
      have hfew := keys_few CS.out s1 (by rw [HLQ.out]; exact s2) (by rw [HLQ.out]; exact k2) R HKR.out (by rw [HLQ.out]; exact HND.out)
      have hle : (R.length : Int) ≤ sizeB cs j k := by unfold sizeB; omega
      have HZ' := Lib.hid (HZ.out wr HB.out)
      obtain ⟨z, hz⟩ : ∃ z, z = sizeB cs j k := ⟨_, rfl⟩
      rw [← hz] at HZ' hle
      obtain ⟨nr, hnr⟩ : ∃ nr, nr = R.length := ⟨_, rfl⟩
      rw [← hnr] at hle ⊢
      clear hz hfew hnr
      go_wp2_with fail
      refine HZ'.out.mono ?_
      rintro e w5 ⟨rfl, hb5⟩
      have HB5 := Lib.hid (HB.out.trans (hb5.mono HB.out.size))
      clear hb5
      go_wp2
      go_ret
      exact ⟨rfl, HB3.out.trans (HB5.out.mono HB3.out.size)⟩
end Go.Proofs.YtaopanclnaimpaaDoor
