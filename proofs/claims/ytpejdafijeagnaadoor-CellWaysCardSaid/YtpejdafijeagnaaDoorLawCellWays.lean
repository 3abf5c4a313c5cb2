/- The law CellWays. -/
import Derived.Test.YtpejdafijeagnaaDoorWaysP
namespace Go.Proofs.YtpejdafijeagnaaDoor
open Go.RowKit Go.Shelf
/-- A cell of one row, of a set. -/
def cF (F : Int → Int) (s : Int) (ms : List Int) : Cel := ⟨(dimsL s).map F, 1, ms, ms, ms⟩
theorem cF_key (F : Int → Int) (s : Int) (ms : List Int) : (cF F s ms).key.length ≤ 4 := by unfold cF; rw [List.length_map]; exact dimsL_le s
theorem narrow_f (F : Int → Int) (a c : Int) (ms : List Int) (k s n m : Value) (w : World) (hx : CR w k s n m (cF F a ms)) (a1 : 0 ≤ a) (a2 : a ≤ 15) (c1 : 0 ≤ c) (c2 : c ≤ 15) (h : bits .andNot .i64 c a = 0) (hl : ms.length ≤ 1000000) (hT : Tab w) (hw1 : 1 < w.heap.size) :
    Calls Tryd.prog 23 #[.agg #[k, .int .i64 1, s, n, m], .int .i64 a, .int .i64 c] w fun e w' => ∃ k s n m, e = .returned (.agg #[k, .int .i64 1, s, n, m]) ∧ CO w.heap.size w' k s n m (cF F c ms) ∧ Below w.heap.size w w' := by
  have := narrow_any k s n m (cF F a ms) a c (dimsL a).length w (by simp [cF]) hx a1 a2 c1 c2 h (ones_len a a1 a2) hl hl hl hT hw1
  rw [show (⟨(dimsL c).map (pick (cF F a ms).key a), (cF F a ms).cnt, (cF F a ms).sum, (cF F a ms).mn, (cF F a ms).mx⟩ : Cel) = cF F c ms from by
    unfold cF
    rw [narrow_key a c a1 a2 c1 c2 h F]] at this
  exact this
set_option maxRecDepth 100000 in
set_option maxHeartbeats 8000000 in
theorem cellWays_walk (a0 : Int) (a1 : Option Addr) (len1 cap1 : Nat) (z1 : List Int) (a2 : Int) (a3 : Option Addr) (len3 cap3 : Nat) (z3 : List Int) (a4 a5 a6 : Int) (w : World) (h0 : inK .i64 a0) (w1 : IsRow .i64 w a1 len1 cap1 z1) (h2 : inK .i64 a2) (w3 : IsRow .i64 w a3 len3 cap3 z3) (h4 : inK .i64 a4) (h5 : inK .i64 a5) (h6 : inK .i64 a6) (hT : Tab w) (hw1 : 1 < w.heap.size) :
    Calls Tryd.prog 14 #[.int .i64 a0, .slice a1 len1 cap1, .int .i64 a2, .slice a3 len3 cap3, .int .i64 a4, .int .i64 a5, .int .i64 a6] w fun e w' => e = .returned (.bool true) ∧ Below w.heap.size w w' := by
  obtain ⟨n1, lc1, cm1⟩ := w1.nums
  obtain ⟨n3, lc3, cm3⟩ := w3.nums
  have N1 := Lib.hid n1
  have N3 := Lib.hid n3
  have HKn := Lib.hid (known_any w hT hw1)
  have HT := Lib.hid hT
  have HW := Lib.hid (fun (x : Int) (W : World) (h : inK .i64 x) => lwithin2 x 16 W h (by omega) (by omega))
  clear w1 w3 n1 n3 hT
  go_enter Tryd.func14, Tryd.ntmps14
  go_wp2_with fail
  refine HKn.out.mono ?_
  rintro e w1 ⟨rfl, hb1⟩
  have Hb1 := Lib.hid hb1
  clear hb1 HKn
  go_wp2_with fail
  refine (Facts_res a0 a2 a1 a3 len1 cap1 len3 cap3 _ _ w1 (N1.out.keep (Keeps.of_below Hb1.out)) (N3.out.keep (Keeps.of_below Hb1.out)) (by omega) (by omega) h0 h2).mono ?_
  rintro e w2 ⟨A, c, D, d, C, q, mm, m, cs, l, rfl, hF⟩
  have F := Lib.hid hF
  obtain ⟨k1, k2, k3, k4⟩ : 1 ≤ q ∧ q ≤ 4 ∧ mm ≤ 2 ∧ m ≤ 40 := ⟨hF.q1, hF.q4, hF.m2, hF.m40⟩
  have hb2 : Below w.heap.size w w2 := Hb1.out.trans (hF.below.mono Hb1.out.size)
  have hb3 : Below w2.heap.size w2 (w2.alloc (.cells #[.slice A q c, .int .i64 mm] 25)) := (Below.refl _ _).alloc (Nat.le_refl _) _
  obtain ⟨s1, s2, s3⟩ := set_bd a4 q k1 k2
  have Hb2 := Lib.hid hb2
  have Hb3 := Lib.hid hb3
  clear hF hb2 hb3
  go_wp2_with fail
  refine (set_any A q c mm a4 _ k1 k2 h4).mono ?_
  rintro e w4 ⟨rfl, rfl⟩
  obtain ⟨sa, hsa⟩ : ∃ sa, sa = a4 % 2 ^ q := ⟨_, rfl⟩
  rw [← hsa] at s1 s2 s3 ⊢
  clear hsa
  have hb4 : Below w2.heap.size w2 ((w2.alloc (.cells #[.slice A q c, .int .i64 mm] 25)).alloc (.cells #[.slice A q c, .int .i64 mm] 25)) := Hb3.out.alloc Hb3.out.size _
  have HB4 := Lib.hid hb4
  clear hb4
  generalize (w2.alloc (.cells #[.slice A q c, .int .i64 mm] 25)).alloc (.cells #[.slice A q c, .int .i64 mm] 25) = w4 at HB4 ⊢
  go_wp2_with fail
  refine (HW.out a5 w4 h5).mono ?_
  rintro e w5 ⟨rfl, rfl⟩
  obtain ⟨b1, b2, b3⟩ := and_sub sa (a5 % 16) s1 s2 (by omega) (by omega)
  obtain ⟨sb, hsb⟩ : ∃ sb, sb = bits .and .i64 sa (a5 % 16) := ⟨_, rfl⟩
  rw [← hsb] at b1 b2 b3
  have HSb := hsb.symm
  clear hsb
  go_wp2_with fail
  refine (HW.out a6 w4 h6).mono ?_
  rintro e w5 ⟨rfl, rfl⟩
  obtain ⟨c1, c2, c3⟩ := and_sub sb (a6 % 16) b1 b2 (by omega) (by omega)
  obtain ⟨sc, hsc⟩ : ∃ sc, sc = bits .and .i64 sb (a6 % 16) := ⟨_, rfl⟩
  rw [← hsc] at c1 c2 c3
  have HSc := hsc.symm
  clear hsc
  have c4 := two_sub sa sb sc s1 s2 b1 b2 c1 c2 b3 c3
  have c5 := sub_le sa sc s1 s2 c1 c2 c4
  have hR4 := F.out.rows.below HB4.out (Nat.le_refl _)
  have hl4 : ∀ r ∈ l, r.key.length = q ∧ r.m.length ≤ 1000000 := fun r hr => by have := F.out.lens r hr; omega
  have hmk := make_any D m d C sa l w4 hR4 F.out.em k4 F.out.small (fun r hr => by have := hl4 r hr; omega) s1 s2
  have Hmk := Lib.hid hmk
  have Hl4 := Lib.hid hl4
  have HR4 := Lib.hid hR4
  clear hmk hl4 hR4
  go_wp2_with fail
  refine Hmk.out.mono ?_
  rintro e w5 ⟨lv, us, rfl, hg, hb5⟩
  obtain ⟨Pl, cl, fl, -, -, hfl, -⟩ := hg.form
  have hul := hg.len
  rw [List.length_map, F.out.em] at hul
  rw [hul] at fl hfl
  subst fl
  have HB5 := Lib.hid hb5
  have HFL := Lib.hid hfl
  have H45 := Lib.hid (Hb2.out.trans ((HB4.out.trans (hb5.mono HB4.out.size)).mono Hb2.out.size))
  clear hg hb5 hul hfl Hmk
  go_wp2_with fail
  go_loopw [21] (fun v wr => ∃ i : Nat, v = .int .i64 i ∧ i ≤ m ∧ Below w5.heap.size w5 wr) (fun v _ => m - (intOf v).toNat)
  case atStart => exact ⟨0, rfl, Nat.zero_le _, Below.refl _ _⟩
  case round =>
    obtain ⟨i, rfl, hi, hb⟩ := hrel
    rename World => wr
    by_cases hlt : i < m
    · have d1 : decide ((i : Int) < (m : Int)) = true := decide_eq_true (by omega)
      obtain ⟨r, hr⟩ : ∃ r, l[i]? = some r := ⟨_, List.getElem?_eq_getElem (by rw [F.out.em]; exact hlt)⟩
      have hrm := List.mem_of_getElem? hr
      obtain ⟨l1, l2⟩ := Hl4.out r hrm
      obtain ⟨ad, kv, mv, rfl, cD, cM, r1, r2⟩ := (HR4.out.below (HB5.out.trans (hb.mono HB5.out.size)) (Nat.le_refl _)).at_ F.out.small F.out.em hr
      have cM' : wr.cell? ⟨(ad.add (i * 2)).block, (ad.add (i * 2)).off + 1, none⟩ = some mv := by
        have e : ad.add (i * 2 + 1) = ⟨(ad.add (i * 2)).block, (ad.add (i * 2)).off + 1, none⟩ := by rw [← add_of_add, Addr.add, if_neg (by omega)]
        rw [← e]; exact cM
      obtain ⟨g, rfl, -, -, hcl, -⟩ := HFL.out (by omega)
      have hof : ofC sa r = cF (valF r.key) sa r.m := by unfold ofC cF; rw [pk_val r.key sa s1 (by rw [l1]; exact s3) (by omega)]
      have hofc : (⟨ofKey r.key sc, 1, r.m, r.m, r.m⟩ : Cel) = cF (valF r.key) sc r.m := by unfold cF; rw [← pk_of r.key sc c1 (by rw [l1]; omega) (by omega), pk_val r.key sc c1 (by rw [l1]; omega) (by omega)]
      have hx := (hcl.keep (Keeps.of_below hb)) i (ofC sa r) (by rw [List.getElem?_map, hr]; rfl)
      rw [hof] at hx
      obtain ⟨G, hG⟩ : ∃ G, G = valF r.key := ⟨_, rfl⟩
      obtain ⟨ms, hms⟩ : ∃ ms, ms = r.m := ⟨_, rfl⟩
      rw [← hG, ← hms] at hx hofc
      rw [← hms] at l2
      obtain ⟨vk, vs, vn, vm, a0', a1', a2', a3', a4', hcx, -⟩ := hx
      change wr.cell? _ = some (.int .i64 1) at a1'
      rw [add0] at a0' a1' a2' a3' a4'
      have hOf := fun W (hW : Keeps wr W) (hz : 1 < W.heap.size) (hTW : Tab W) => of_any kv mv r.key r.m r.key.length sc W rfl (r1.keep hW) (r2.keep hW) (by omega) (by rw [← hms]; exact l2) c1 (by rw [l1]; omega) hTW hz
      rw [← hms] at hOf
      rw [hofc] at hOf
      have HOf := Lib.hid hOf
      have Hcx := Lib.hid hcx
      have Hb := Lib.hid (H45.out.trans (hb.mono H45.out.size))
      have Hb5r := Lib.hid hb
      obtain ⟨Pk, ck, f1, -⟩ := hcx.key
      obtain ⟨Ps, cks, f2, -⟩ := hcx.sum
      obtain ⟨Pn, cn, f3, -⟩ := hcx.mn
      obtain ⟨Pm, cm, f4, -⟩ := hcx.mx
      obtain ⟨Qk, dk, f5, -⟩ := r1
      obtain ⟨Qm, dm, f6, -⟩ := r2
      obtain ⟨ka, hka⟩ : ∃ ka, ka = (cF G sa ms).key.length := ⟨_, rfl⟩
      obtain ⟨lm, hlm⟩ : ∃ lm, lm = ms.length := ⟨_, rfl⟩
      rw [← hka] at f1
      rw [show (cF G sa ms).sum.length = ms.length from rfl, ← hlm] at f2
      rw [show (cF G sa ms).mn.length = ms.length from rfl, ← hlm] at f3
      rw [show (cF G sa ms).mx.length = ms.length from rfl, ← hlm] at f4
      rw [l1] at f5
      rw [← hms, ← hlm] at f6
      subst f1 f2 f3 f4 f5 f6
      have kw : Keeps wr wr.drew := (Keeps.refl wr).drewN 1
      have i0 : (0 : Int) ≤ (i : Int) := by omega
      have i1 : (i : Int) < (m : Int) := by omega
      have hsz : 1 < wr.drew.heap.size := Nat.lt_of_lt_of_le hw1 (show w.heap.size ≤ wr.heap.size from Hb.out.size)
      have NF := Lib.hid (fun (a c : Int) (k s n m : Value) (W : World) (hx : CR W k s n m (cF G a ms)) (a1 : 0 ≤ a) (a2 : a ≤ 15) (c1 : 0 ≤ c) (c2 : c ≤ 15) (h : bits .andNot .i64 c a = 0) (hT : Tab W) (hw : 1 < W.heap.size) => narrow_f G a c ms k s n m W hx a1 a2 c1 c2 h l2 hT hw)
      have EF := Lib.hid (fun (a : Int) (k s n m k' s' n' m' : Value) (W : World) (hx : CR W k s n m (cF G a ms)) (hy : CR W k' s' n' m' (cF G a ms)) => equal_yes k s n m k' s' n' m' (cF G a ms) W hx hy (by have := cF_key G a ms; omega) l2 l2 l2)
      have HTr := Lib.hid (HT.out.keep ((Keeps.of_below Hb.out).trans kw))
      have HBr := Lib.hid (show Below w5.heap.size w5 wr.drew from below_drewN hb 1)
      clear hcx hOf hofc hof hrm hr hG hms hka hlm hcl l1 cM hb
      go_wp2_with fail
      refine wp_region_held_drew (S := fun W => Keeps wr W) (by kernel_rfl) (show Keeps wr wr.drew from kw) (fun hHeld => ?_)
      have KP : Hid (Keeps wr wr.drew) := Lib.hid kw
      clear kw
      refine wpAnyH_take (i := 0) (v := ?va0) rfl (by kernel_rfl) (by kernel_rfl) (by kernel_rfl) (fun _ _ _ h => h) (Or.inl ⟨by rfl, ?ya0⟩) hHeld ?ra0
      case ya0 => (intro W hW; go_simp; first | done | with_reducible rfl)
      try simp only [List.getElem_toArray, List.getElem_cons_zero, Act.put, List.setIfInBounds_toArray, List.set_cons_zero, List.set_cons_succ]
      refine wpAnyH_take (i := 1) (v := ?va1) rfl (by kernel_rfl) (by kernel_rfl) (by kernel_rfl) (fun _ _ _ h => h) (Or.inl ⟨by rfl, ?ya1⟩) hHeld ?ra1
      case ya1 => (intro W hW; go_simp; first | done | with_reducible rfl)
      try simp only [List.getElem_toArray, List.getElem_cons_succ, List.getElem_cons_zero, Act.put, List.setIfInBounds_toArray, List.set_cons_zero, List.set_cons_succ]
      refine wpAnyH_take (i := 2) (v := ?va2) rfl (by kernel_rfl) (by kernel_rfl) (by kernel_rfl) (fun _ _ _ h => h) (Or.inl ⟨by rfl, ?ya2⟩) hHeld ?ra2
      case ya2 => (intro W hW; go_simp; first | done | with_reducible rfl)
      try simp only [List.getElem_toArray, List.getElem_cons_succ, List.getElem_cons_zero, Act.put, List.setIfInBounds_toArray, List.set_cons_zero, List.set_cons_succ]
      refine wpAnyH_take (i := 3) (v := ?va3) rfl (by kernel_rfl) (by kernel_rfl) (by kernel_rfl) (fun _ _ _ h => h) (Or.inl ⟨by rfl, ?ya3⟩) hHeld ?ra3
      case ya3 => (intro W hW; have g0 := hW _ _ a0'; have g1 := hW _ _ a1'; have g2 := hW _ _ a2'; have g3 := hW _ _ a3'; have g4 := hW _ _ a4'; clear hW; go_simp; first | done | with_reducible rfl)
      try simp only [List.getElem_toArray, List.getElem_cons_succ, List.getElem_cons_zero, Act.put, List.setIfInBounds_toArray, List.set_cons_zero, List.set_cons_succ]
      refine wpAnyH_take (i := 4) (v := ?va4) rfl (by kernel_rfl) (by kernel_rfl) (by kernel_rfl) (fun _ _ _ h => h) (Or.inl ⟨by rfl, ?ya4⟩) hHeld ?ra4
      case ya4 => (intro W hW; go_simp; first | done | with_reducible rfl)
      try simp only [List.getElem_toArray, List.getElem_cons_succ, List.getElem_cons_zero, Act.put, List.setIfInBounds_toArray, List.set_cons_zero, List.set_cons_succ]
      refine wpAnyH_take (i := 5) (v := ?va5) rfl (by kernel_rfl) (by kernel_rfl) (by kernel_rfl) (fun _ _ _ h => h) (Or.inl ⟨by rfl, ?ya5⟩) hHeld ?ra5
      case ya5 => (intro W hW; go_simp; first | done | with_reducible rfl)
      try simp only [List.getElem_toArray, List.getElem_cons_succ, List.getElem_cons_zero, Act.put, List.setIfInBounds_toArray, List.set_cons_zero, List.set_cons_succ]
      refine wpAnyH_take (i := 7) (v := ?va7) rfl (by kernel_rfl) (by kernel_rfl) (by kernel_rfl) (fun _ _ _ h => h) (Or.inl ⟨by rfl, ?ya7⟩) hHeld ?ra7
      case ya7 => (intro W hW; go_simp; first | done | with_reducible rfl)
      try simp only [List.getElem_toArray, List.getElem_cons_succ, List.getElem_cons_zero, Act.put, List.setIfInBounds_toArray, List.set_cons_zero, List.set_cons_succ]
      refine wpAnyH_take (i := 8) (v := ?va8) rfl (by kernel_rfl) (by kernel_rfl) (by kernel_rfl) (fun _ _ _ h => h) (Or.inl ⟨by rfl, ?ya8⟩) hHeld ?ra8
      case ya8 => (intro W hW; go_simp; first | done | with_reducible rfl)
      try simp only [List.getElem_toArray, List.getElem_cons_succ, List.getElem_cons_zero, Act.put, List.setIfInBounds_toArray, List.set_cons_zero, List.set_cons_succ]
      refine wpAnyH_take (i := 10) (v := ?va10) rfl (by kernel_rfl) (by kernel_rfl) (by kernel_rfl) (fun _ _ _ h => h) (Or.inl ⟨by rfl, ?ya10⟩) hHeld ?ra10
      case ya10 => (intro W hW; go_simp; first | done | with_reducible rfl)
      try simp only [List.getElem_toArray, List.getElem_cons_succ, List.getElem_cons_zero, Act.put, List.setIfInBounds_toArray, List.set_cons_zero, List.set_cons_succ]
      refine wpAnyH_take (i := 11) (v := ?va11) rfl (by kernel_rfl) (by kernel_rfl) (by kernel_rfl) (fun _ _ _ h => h) (Or.inl ⟨by rfl, ?ya11⟩) hHeld ?ra11
      case ya11 => (intro W hW; go_simp; first | done | with_reducible rfl)
      try simp only [List.getElem_toArray, List.getElem_cons_succ, List.getElem_cons_zero, Act.put, List.setIfInBounds_toArray, List.set_cons_zero, List.set_cons_succ]
      refine wpAnyH_take (i := 12) (v := ?va12) rfl (by kernel_rfl) (by kernel_rfl) (by kernel_rfl) (fun _ _ _ h => h) (Or.inl ⟨by rfl, ?ya12⟩) hHeld ?ra12
      case ya12 => (intro W hW; go_simp; first | done | with_reducible rfl)
      try simp only [List.getElem_toArray, List.getElem_cons_succ, List.getElem_cons_zero, Act.put, List.setIfInBounds_toArray, List.set_cons_zero, List.set_cons_succ]
      refine wpAnyH_take (i := 13) (v := ?va13) rfl (by kernel_rfl) (by kernel_rfl) (by kernel_rfl) (fun _ _ _ h => h) (Or.inl ⟨by rfl, ?ya13⟩) hHeld ?ra13
      case ya13 => (intro W hW; have g0 := hW _ _ a0'; have g1 := hW _ _ a1'; have g2 := hW _ _ a2'; have g3 := hW _ _ a3'; have g4 := hW _ _ a4'; clear hW; go_simp; first | done | with_reducible rfl)
      try simp only [List.getElem_toArray, List.getElem_cons_succ, List.getElem_cons_zero, Act.put, List.setIfInBounds_toArray, List.set_cons_zero, List.set_cons_succ]
      refine wpAnyH_take (i := 14) (v := ?va14) rfl (by kernel_rfl) (by kernel_rfl) (by kernel_rfl) (fun _ _ _ h => h) (Or.inl ⟨by rfl, ?ya14⟩) hHeld ?ra14
      case ya14 => (intro W hW; go_simp; first | done | with_reducible rfl)
      try simp only [List.getElem_toArray, List.getElem_cons_succ, List.getElem_cons_zero, Act.put, List.setIfInBounds_toArray, List.set_cons_zero, List.set_cons_succ]
      refine wpAnyH_take (i := 15) (v := ?va15) rfl (by kernel_rfl) (by kernel_rfl) (by kernel_rfl) (fun _ _ _ h => h) (Or.inl ⟨by rfl, ?ya15⟩) hHeld ?ra15
      case ya15 => (intro W hW; go_simp; first | done | with_reducible rfl)
      try simp only [List.getElem_toArray, List.getElem_cons_succ, List.getElem_cons_zero, Act.put, List.setIfInBounds_toArray, List.set_cons_zero, List.set_cons_succ]
      refine wpAnyH_ready (rs := [6]) (by kernel_rfl) (by simp) ?_
      refine AllReadyH.cons rfl (fun K hK => ?_) (AllReadyH.nil)
      go_simp
      refine (NF.out sa sb _ _ _ _ _ (Hcx.out.keep KP.out) s1 s2 b1 b2 b3 HTr.out hsz).mono ?_
      rintro e V1 ⟨kV1, sV1, nV1, mV1, rfl, hco, hbv⟩
      have KV1 := Lib.hid (KP.out.trans (Keeps.of_below hbv))
      have TV1 := Lib.hid (HTr.out.keep (Keeps.of_below hbv))
      have ZV1 : 1 < V1.heap.size := Nat.lt_of_lt_of_le hsz hbv.size
      have BV1 := Lib.hid (HBr.out.trans (hbv.mono HBr.out.size))
      have CV1 := Lib.hid hco.cr
      obtain ⟨PkV1, ckV1, f1, -⟩ := hco.key.form
      obtain ⟨PsV1, csV1, f2, -⟩ := hco.sum.form
      obtain ⟨PnV1, cnV1, f3, -⟩ := hco.mn.form
      obtain ⟨PmV1, cmV1, f4, -⟩ := hco.mx.form
      subst f1 f2 f3 f4
      clear hco hbv KP HTr hsz HBr
      have KP := KV1
      have HTr := TV1
      have hsz := ZV1
      have HBr := BV1
      clear KV1 TV1 ZV1 BV1
      refine hK.out _ _ (KP.out) (fun hHeld => ?_)
      clear hK K
      try simp only [List.getElem_toArray, List.getElem_cons_succ, List.getElem_cons_zero, Act.put, List.setIfInBounds_toArray, List.set_cons_zero, List.set_cons_succ]
      refine wpAnyH_ready (rs := [9]) (by kernel_rfl) (by simp) ?_
      refine AllReadyH.cons rfl (fun K hK => ?_) (AllReadyH.nil)
      go_simp
      refine (NF.out sb sc _ _ _ _ _ CV1.out b1 b2 c1 c2 c3 HTr.out hsz).mono ?_
      rintro e V2 ⟨kV2, sV2, nV2, mV2, rfl, hco, hbv⟩
      have KV2 := Lib.hid (KP.out.trans (Keeps.of_below hbv))
      have TV2 := Lib.hid (HTr.out.keep (Keeps.of_below hbv))
      have ZV2 : 1 < V2.heap.size := Nat.lt_of_lt_of_le hsz hbv.size
      have BV2 := Lib.hid (HBr.out.trans (hbv.mono HBr.out.size))
      have CV2 := Lib.hid hco.cr
      obtain ⟨PkV2, ckV2, f1, -⟩ := hco.key.form
      obtain ⟨PsV2, csV2, f2, -⟩ := hco.sum.form
      obtain ⟨PnV2, cnV2, f3, -⟩ := hco.mn.form
      obtain ⟨PmV2, cmV2, f4, -⟩ := hco.mx.form
      subst f1 f2 f3 f4
      clear hco hbv KP HTr hsz HBr
      have KP := KV2
      have HTr := TV2
      have hsz := ZV2
      have HBr := BV2
      clear KV2 TV2 ZV2 BV2
      refine hK.out _ _ (KP.out) (fun hHeld => ?_)
      clear hK K
      try simp only [List.getElem_toArray, List.getElem_cons_succ, List.getElem_cons_zero, Act.put, List.setIfInBounds_toArray, List.set_cons_zero, List.set_cons_succ]
      refine wpAnyH_ready (rs := [16]) (by kernel_rfl) (by simp) ?_
      refine AllReadyH.cons rfl (fun K hK => ?_) (AllReadyH.nil)
      go_simp
      refine (NF.out sa sc _ _ _ _ _ (Hcx.out.keep KP.out) s1 s2 c1 c2 c4 HTr.out hsz).mono ?_
      rintro e V3 ⟨kV3, sV3, nV3, mV3, rfl, hco, hbv⟩
      have KV3 := Lib.hid (KP.out.trans (Keeps.of_below hbv))
      have TV3 := Lib.hid (HTr.out.keep (Keeps.of_below hbv))
      have ZV3 : 1 < V3.heap.size := Nat.lt_of_lt_of_le hsz hbv.size
      have BV3 := Lib.hid (HBr.out.trans (hbv.mono HBr.out.size))
      have CV3 := Lib.hid hco.cr
      have CV2b := Lib.hid (CV2.out.keep (Keeps.of_below hbv))
      obtain ⟨PkV3, ckV3, f1, -⟩ := hco.key.form
      obtain ⟨PsV3, csV3, f2, -⟩ := hco.sum.form
      obtain ⟨PnV3, cnV3, f3, -⟩ := hco.mn.form
      obtain ⟨PmV3, cmV3, f4, -⟩ := hco.mx.form
      subst f1 f2 f3 f4
      clear hco hbv KP HTr hsz HBr
      have KP := KV3
      have HTr := TV3
      have hsz := ZV3
      have HBr := BV3
      clear KV3 TV3 ZV3 BV3
      refine hK.out _ _ (KP.out) (fun hHeld => ?_)
      clear hK K
      try simp only [List.getElem_toArray, List.getElem_cons_succ, List.getElem_cons_zero, Act.put, List.setIfInBounds_toArray, List.set_cons_zero, List.set_cons_succ]
      refine wpAnyH_ready (rs := [17]) (by kernel_rfl) (by simp) ?_
      refine AllReadyH.cons rfl (fun K hK => ?_) (AllReadyH.nil)
      go_simp
      refine (EF.out sc _ _ _ _ _ _ _ _ _ CV2b.out CV3.out).mono ?_
      rintro e V4 ⟨rfl, hbv⟩
      have KV4 := Lib.hid (KP.out.trans (Keeps.of_below hbv))
      have TV4 := Lib.hid (HTr.out.keep (Keeps.of_below hbv))
      have ZV4 : 1 < V4.heap.size := Nat.lt_of_lt_of_le hsz hbv.size
      have BV4 := Lib.hid (HBr.out.trans (hbv.mono HBr.out.size))
      clear hbv KP HTr hsz HBr
      have KP := KV4
      have HTr := TV4
      have hsz := ZV4
      have HBr := BV4
      clear KV4 TV4 ZV4 BV4
      refine hK.out _ _ (KP.out) (fun hHeld => ?_)
      clear hK K
      try simp only [List.getElem_toArray, List.getElem_cons_succ, List.getElem_cons_zero, Act.put, List.setIfInBounds_toArray, List.set_cons_zero, List.set_cons_succ]
      refine wpAnyH_take (i := 18) (v := ?va18) rfl (by kernel_rfl) (by kernel_rfl) (by kernel_rfl) (fun _ _ _ h => h) (Or.inl ⟨by rfl, ?ya18⟩) hHeld ?ra18
      case ya18 => (intro W hW; go_simp; first | done | with_reducible rfl)
      try simp only [List.getElem_toArray, List.getElem_cons_succ, List.getElem_cons_zero, Act.put, List.setIfInBounds_toArray, List.set_cons_zero, List.set_cons_succ]
      refine wpAnyH_take (i := 19) (v := ?va19) rfl (by kernel_rfl) (by kernel_rfl) (by kernel_rfl) (fun _ _ _ h => h) (Or.inl ⟨by rfl, ?ya19⟩) hHeld ?ra19
      case ya19 => (intro W hW; go_simp; first | done | with_reducible rfl)
      try simp only [List.getElem_toArray, List.getElem_cons_succ, List.getElem_cons_zero, Act.put, List.setIfInBounds_toArray, List.set_cons_zero, List.set_cons_succ]
      refine wpAnyH_take (i := 20) (v := ?va20) rfl (by kernel_rfl) (by kernel_rfl) (by kernel_rfl) (fun _ _ _ h => h) (Or.inl ⟨by rfl, ?ya20⟩) hHeld ?ra20
      case ya20 => (intro W hW; go_simp; first | done | with_reducible rfl)
      try simp only [List.getElem_toArray, List.getElem_cons_succ, List.getElem_cons_zero, Act.put, List.setIfInBounds_toArray, List.set_cons_zero, List.set_cons_succ]
      refine wpAnyH_take (i := 21) (v := ?va21) rfl (by kernel_rfl) (by kernel_rfl) (by kernel_rfl) (fun _ _ _ h => h) (Or.inl ⟨by rfl, ?ya21⟩) hHeld ?ra21
      case ya21 => (intro W hW; go_simp; first | done | with_reducible rfl)
      try simp only [List.getElem_toArray, List.getElem_cons_succ, List.getElem_cons_zero, Act.put, List.setIfInBounds_toArray, List.set_cons_zero, List.set_cons_succ]
      refine wpAnyH_take (i := 22) (v := ?va22) rfl (by kernel_rfl) (by kernel_rfl) (by kernel_rfl) (fun _ _ _ h => h) (Or.inl ⟨by rfl, ?ya22⟩) hHeld ?ra22
      case ya22 => (intro W hW; go_simp; first | done | with_reducible rfl)
      try simp only [List.getElem_toArray, List.getElem_cons_succ, List.getElem_cons_zero, Act.put, List.setIfInBounds_toArray, List.set_cons_zero, List.set_cons_succ]
      refine wpAnyH_take (i := 23) (v := ?va23) rfl (by kernel_rfl) (by kernel_rfl) (by kernel_rfl) (fun _ _ _ h => h) (Or.inl ⟨by rfl, ?ya23⟩) hHeld ?ra23
      case ya23 => (intro W hW; have g0 := hW _ _ a0'; have g1 := hW _ _ a1'; have g2 := hW _ _ a2'; have g3 := hW _ _ a3'; have g4 := hW _ _ a4'; clear hW; go_simp; first | done | with_reducible rfl)
      try simp only [List.getElem_toArray, List.getElem_cons_succ, List.getElem_cons_zero, Act.put, List.setIfInBounds_toArray, List.set_cons_zero, List.set_cons_succ]
      refine wpAnyH_take (i := 24) (v := ?va24) rfl (by kernel_rfl) (by kernel_rfl) (by kernel_rfl) (fun _ _ _ h => h) (Or.inl ⟨by rfl, ?ya24⟩) hHeld ?ra24
      case ya24 => (intro W hW; go_simp; first | done | with_reducible rfl)
      try simp only [List.getElem_toArray, List.getElem_cons_succ, List.getElem_cons_zero, Act.put, List.setIfInBounds_toArray, List.set_cons_zero, List.set_cons_succ]
      refine wpAnyH_take (i := 25) (v := ?va25) rfl (by kernel_rfl) (by kernel_rfl) (by kernel_rfl) (fun _ _ _ h => h) (Or.inl ⟨by rfl, ?ya25⟩) hHeld ?ra25
      case ya25 => (intro W hW; go_simp; first | done | with_reducible rfl)
      try simp only [List.getElem_toArray, List.getElem_cons_succ, List.getElem_cons_zero, Act.put, List.setIfInBounds_toArray, List.set_cons_zero, List.set_cons_succ]
      refine wpAnyH_take (i := 27) (v := ?va27) rfl (by kernel_rfl) (by kernel_rfl) (by kernel_rfl) (fun _ _ _ h => h) (Or.inl ⟨by rfl, ?ya27⟩) hHeld ?ra27
      case ya27 => (intro W hW; go_simp; first | done | with_reducible rfl)
      try simp only [List.getElem_toArray, List.getElem_cons_succ, List.getElem_cons_zero, Act.put, List.setIfInBounds_toArray, List.set_cons_zero, List.set_cons_succ]
      refine wpAnyH_take (i := 28) (v := ?va28) rfl (by kernel_rfl) (by kernel_rfl) (by kernel_rfl) (fun _ _ _ h => h) (Or.inl ⟨by rfl, ?ya28⟩) hHeld ?ra28
      case ya28 => (intro W hW; go_simp; first | done | with_reducible rfl)
      try simp only [List.getElem_toArray, List.getElem_cons_succ, List.getElem_cons_zero, Act.put, List.setIfInBounds_toArray, List.set_cons_zero, List.set_cons_succ]
      refine wpAnyH_take (i := 29) (v := ?va29) rfl (by kernel_rfl) (by kernel_rfl) (by kernel_rfl) (fun _ _ _ h => h) (Or.inl ⟨by rfl, ?ya29⟩) hHeld ?ra29
      case ya29 => (intro W hW; go_simp; first | done | with_reducible rfl)
      try simp only [List.getElem_toArray, List.getElem_cons_succ, List.getElem_cons_zero, Act.put, List.setIfInBounds_toArray, List.set_cons_zero, List.set_cons_succ]
      refine wpAnyH_take (i := 30) (v := ?va30) rfl (by kernel_rfl) (by kernel_rfl) (by kernel_rfl) (fun _ _ _ h => h) (Or.inl ⟨by rfl, ?ya30⟩) hHeld ?ra30
      case ya30 => (intro W hW; have g0 := hW _ _ a0'; have g1 := hW _ _ a1'; have g2 := hW _ _ a2'; have g3 := hW _ _ a3'; have g4 := hW _ _ a4'; clear hW; go_simp; first | done | with_reducible rfl)
      try simp only [List.getElem_toArray, List.getElem_cons_succ, List.getElem_cons_zero, Act.put, List.setIfInBounds_toArray, List.set_cons_zero, List.set_cons_succ]
      refine wpAnyH_ready (rs := [26]) (by kernel_rfl) (by simp) ?_
      refine AllReadyH.cons rfl (fun K hK => ?_) (AllReadyH.nil)
      go_simp
      refine (NF.out sa sa _ _ _ _ _ (Hcx.out.keep KP.out) s1 s2 s1 s2 (self_sub sa s1 s2) HTr.out hsz).mono ?_
      rintro e V5 ⟨kV5, sV5, nV5, mV5, rfl, hco, hbv⟩
      have KV5 := Lib.hid (KP.out.trans (Keeps.of_below hbv))
      have TV5 := Lib.hid (HTr.out.keep (Keeps.of_below hbv))
      have ZV5 : 1 < V5.heap.size := Nat.lt_of_lt_of_le hsz hbv.size
      have BV5 := Lib.hid (HBr.out.trans (hbv.mono HBr.out.size))
      have CV5 := Lib.hid hco.cr
      obtain ⟨PkV5, ckV5, f1, -⟩ := hco.key.form
      obtain ⟨PsV5, csV5, f2, -⟩ := hco.sum.form
      obtain ⟨PnV5, cnV5, f3, -⟩ := hco.mn.form
      obtain ⟨PmV5, cmV5, f4, -⟩ := hco.mx.form
      subst f1 f2 f3 f4
      clear hco hbv KP HTr hsz HBr
      have KP := KV5
      have HTr := TV5
      have hsz := ZV5
      have HBr := BV5
      clear KV5 TV5 ZV5 BV5
      refine hK.out _ _ (KP.out) (fun hHeld => ?_)
      clear hK K
      try simp only [List.getElem_toArray, List.getElem_cons_succ, List.getElem_cons_zero, Act.put, List.setIfInBounds_toArray, List.set_cons_zero, List.set_cons_succ]
      refine wpAnyH_ready (rs := [31]) (by kernel_rfl) (by simp) ?_
      refine AllReadyH.cons rfl (fun K hK => ?_) (AllReadyH.nil)
      go_simp
      refine (EF.out sa _ _ _ _ _ _ _ _ _ CV5.out (Hcx.out.keep KP.out)).mono ?_
      rintro e V6 ⟨rfl, hbv⟩
      have KV6 := Lib.hid (KP.out.trans (Keeps.of_below hbv))
      have TV6 := Lib.hid (HTr.out.keep (Keeps.of_below hbv))
      have ZV6 : 1 < V6.heap.size := Nat.lt_of_lt_of_le hsz hbv.size
      have BV6 := Lib.hid (HBr.out.trans (hbv.mono HBr.out.size))
      clear hbv KP HTr hsz HBr
      have KP := KV6
      have HTr := TV6
      have hsz := ZV6
      have HBr := BV6
      clear KV6 TV6 ZV6 BV6
      refine hK.out _ _ (KP.out) (fun hHeld => ?_)
      clear hK K
      try simp only [List.getElem_toArray, List.getElem_cons_succ, List.getElem_cons_zero, Act.put, List.setIfInBounds_toArray, List.set_cons_zero, List.set_cons_succ]
      refine wpAnyH_take (i := 32) (v := ?va32) rfl (by kernel_rfl) (by kernel_rfl) (by kernel_rfl) (fun _ _ _ h => h) (Or.inl ⟨by rfl, ?ya32⟩) hHeld ?ra32
      case ya32 => (intro W hW; go_simp; first | done | with_reducible rfl)
      try simp only [List.getElem_toArray, List.getElem_cons_succ, List.getElem_cons_zero, Act.put, List.setIfInBounds_toArray, List.set_cons_zero, List.set_cons_succ]
      refine wpAnyH_take (i := 33) (v := ?va33) rfl (by kernel_rfl) (by kernel_rfl) (by kernel_rfl) (fun _ _ _ h => h) (Or.inl ⟨by rfl, ?ya33⟩) hHeld ?ra33
      case ya33 => (intro W hW; go_simp; first | done | with_reducible rfl)
      try simp only [List.getElem_toArray, List.getElem_cons_succ, List.getElem_cons_zero, Act.put, List.setIfInBounds_toArray, List.set_cons_zero, List.set_cons_succ]
      refine wpAnyH_take (i := 34) (v := ?va34) rfl (by kernel_rfl) (by kernel_rfl) (by kernel_rfl) (fun _ _ _ h => h) (Or.inl ⟨by rfl, ?ya34⟩) hHeld ?ra34
      case ya34 => (intro W hW; go_simp; first | done | with_reducible rfl)
      try simp only [List.getElem_toArray, List.getElem_cons_succ, List.getElem_cons_zero, Act.put, List.setIfInBounds_toArray, List.set_cons_zero, List.set_cons_succ]
      refine wpAnyH_take (i := 35) (v := ?va35) rfl (by kernel_rfl) (by kernel_rfl) (by kernel_rfl) (fun _ _ _ h => h) (Or.inl ⟨by rfl, ?ya35⟩) hHeld ?ra35
      case ya35 => (intro W hW; go_simp; first | done | with_reducible rfl)
      try simp only [List.getElem_toArray, List.getElem_cons_succ, List.getElem_cons_zero, Act.put, List.setIfInBounds_toArray, List.set_cons_zero, List.set_cons_succ]
      refine wpAnyH_take (i := 36) (v := ?va36) rfl (by kernel_rfl) (by kernel_rfl) (by kernel_rfl) (fun _ _ _ h => h) (Or.inl ⟨by rfl, ?ya36⟩) hHeld ?ra36
      case ya36 => (intro W hW; go_simp; first | done | with_reducible rfl)
      try simp only [List.getElem_toArray, List.getElem_cons_succ, List.getElem_cons_zero, Act.put, List.setIfInBounds_toArray, List.set_cons_zero, List.set_cons_succ]
      refine wpAnyH_take (i := 37) (v := ?va37) rfl (by kernel_rfl) (by kernel_rfl) (by kernel_rfl) (fun _ _ _ h => h) (Or.inl ⟨by rfl, ?ya37⟩) hHeld ?ra37
      case ya37 => (intro W hW; go_simp; first | done | with_reducible rfl)
      try simp only [List.getElem_toArray, List.getElem_cons_succ, List.getElem_cons_zero, Act.put, List.setIfInBounds_toArray, List.set_cons_zero, List.set_cons_succ]
      refine wpAnyH_take (i := 38) (v := ?va38) rfl (by kernel_rfl) (by kernel_rfl) (by kernel_rfl) (fun _ _ _ h => h) (Or.inl ⟨by rfl, ?ya38⟩) hHeld ?ra38
      case ya38 => (intro W hW; have g0 := hW _ _ a0'; have g1 := hW _ _ a1'; have g2 := hW _ _ a2'; have g3 := hW _ _ a3'; have g4 := hW _ _ a4'; clear hW; go_simp; first | done | with_reducible rfl)
      try simp only [List.getElem_toArray, List.getElem_cons_succ, List.getElem_cons_zero, Act.put, List.setIfInBounds_toArray, List.set_cons_zero, List.set_cons_succ]
      refine wpAnyH_take (i := 39) (v := ?va39) rfl (by kernel_rfl) (by kernel_rfl) (by kernel_rfl) (fun _ _ _ h => h) (Or.inl ⟨by rfl, ?ya39⟩) hHeld ?ra39
      case ya39 => (intro W hW; go_simp; first | done | with_reducible rfl)
      try simp only [List.getElem_toArray, List.getElem_cons_succ, List.getElem_cons_zero, Act.put, List.setIfInBounds_toArray, List.set_cons_zero, List.set_cons_succ]
      refine wpAnyH_take (i := 40) (v := ?va40) rfl (by kernel_rfl) (by kernel_rfl) (by kernel_rfl) (fun _ _ _ h => h) (Or.inl ⟨by rfl, ?ya40⟩) hHeld ?ra40
      case ya40 => (intro W hW; go_simp; first | done | with_reducible rfl)
      try simp only [List.getElem_toArray, List.getElem_cons_succ, List.getElem_cons_zero, Act.put, List.setIfInBounds_toArray, List.set_cons_zero, List.set_cons_succ]
      refine wpAnyH_take (i := 42) (v := ?va42) rfl (by kernel_rfl) (by kernel_rfl) (by kernel_rfl) (fun _ _ _ h => h) (Or.inl ⟨by rfl, ?ya42⟩) hHeld ?ra42
      case ya42 => (intro W hW; go_simp; first | done | with_reducible rfl)
      try simp only [List.getElem_toArray, List.getElem_cons_succ, List.getElem_cons_zero, Act.put, List.setIfInBounds_toArray, List.set_cons_zero, List.set_cons_succ]
      refine wpAnyH_take (i := 43) (v := ?va43) rfl (by kernel_rfl) (by kernel_rfl) (by kernel_rfl) (fun _ _ _ h => h) (Or.inl ⟨by rfl, ?ya43⟩) hHeld ?ra43
      case ya43 => (intro W hW; go_simp; first | done | with_reducible rfl)
      try simp only [List.getElem_toArray, List.getElem_cons_succ, List.getElem_cons_zero, Act.put, List.setIfInBounds_toArray, List.set_cons_zero, List.set_cons_succ]
      refine wpAnyH_take (i := 44) (v := ?va44) rfl (by kernel_rfl) (by kernel_rfl) (by kernel_rfl) (fun _ _ _ h => h) (Or.inl ⟨by rfl, ?ya44⟩) hHeld ?ra44
      case ya44 => (intro W hW; go_simp; first | done | with_reducible rfl)
      try simp only [List.getElem_toArray, List.getElem_cons_succ, List.getElem_cons_zero, Act.put, List.setIfInBounds_toArray, List.set_cons_zero, List.set_cons_succ]
      refine wpAnyH_take (i := 45) (v := ?va45) rfl (by kernel_rfl) (by kernel_rfl) (by kernel_rfl) (fun _ _ _ h => h) (Or.inl ⟨by rfl, ?ya45⟩) hHeld ?ra45
      case ya45 => (intro W hW; have g0 := hW _ _ cD; have g1 := hW _ _ cM'; clear hW; go_simp; first | done | with_reducible rfl)
      try simp only [List.getElem_toArray, List.getElem_cons_succ, List.getElem_cons_zero, Act.put, List.setIfInBounds_toArray, List.set_cons_zero, List.set_cons_succ]
      refine wpAnyH_take (i := 46) (v := ?va46) rfl (by kernel_rfl) (by kernel_rfl) (by kernel_rfl) (fun _ _ _ h => h) (Or.inl ⟨by rfl, ?ya46⟩) hHeld ?ra46
      case ya46 => (intro W hW; go_simp; first | done | with_reducible rfl)
      try simp only [List.getElem_toArray, List.getElem_cons_succ, List.getElem_cons_zero, Act.put, List.setIfInBounds_toArray, List.set_cons_zero, List.set_cons_succ]
      refine wpAnyH_ready (rs := [41]) (by kernel_rfl) (by simp) ?_
      refine AllReadyH.cons rfl (fun K hK => ?_) (AllReadyH.nil)
      go_simp
      refine (NF.out sa sc _ _ _ _ _ (Hcx.out.keep KP.out) s1 s2 c1 c2 c4 HTr.out hsz).mono ?_
      rintro e V7 ⟨kV7, sV7, nV7, mV7, rfl, hco, hbv⟩
      have KV7 := Lib.hid (KP.out.trans (Keeps.of_below hbv))
      have TV7 := Lib.hid (HTr.out.keep (Keeps.of_below hbv))
      have ZV7 : 1 < V7.heap.size := Nat.lt_of_lt_of_le hsz hbv.size
      have BV7 := Lib.hid (HBr.out.trans (hbv.mono HBr.out.size))
      have CV7 := Lib.hid hco.cr
      obtain ⟨PkV7, ckV7, f1, -⟩ := hco.key.form
      obtain ⟨PsV7, csV7, f2, -⟩ := hco.sum.form
      obtain ⟨PnV7, cnV7, f3, -⟩ := hco.mn.form
      obtain ⟨PmV7, cmV7, f4, -⟩ := hco.mx.form
      subst f1 f2 f3 f4
      clear hco hbv KP HTr hsz HBr
      have KP := KV7
      have HTr := TV7
      have hsz := ZV7
      have HBr := BV7
      clear KV7 TV7 ZV7 BV7
      refine hK.out _ _ (KP.out) (fun hHeld => ?_)
      clear hK K
      try simp only [List.getElem_toArray, List.getElem_cons_succ, List.getElem_cons_zero, Act.put, List.setIfInBounds_toArray, List.set_cons_zero, List.set_cons_succ]
      refine wpAnyH_ready (rs := [47]) (by kernel_rfl) (by simp) ?_
      refine AllReadyH.cons rfl (fun K hK => ?_) (AllReadyH.nil)
      go_simp
      refine (HOf.out _ KP.out hsz HTr.out).mono ?_
      rintro e V8 ⟨kV8, sV8, nV8, mV8, rfl, hco, hbv⟩
      have KV8 := Lib.hid (KP.out.trans (Keeps.of_below hbv))
      have TV8 := Lib.hid (HTr.out.keep (Keeps.of_below hbv))
      have ZV8 : 1 < V8.heap.size := Nat.lt_of_lt_of_le hsz hbv.size
      have BV8 := Lib.hid (HBr.out.trans (hbv.mono HBr.out.size))
      have CV8 := Lib.hid hco.cr
      have CV7b := Lib.hid (CV7.out.keep (Keeps.of_below hbv))
      obtain ⟨PkV8, ckV8, f1, -⟩ := hco.key.form
      obtain ⟨PsV8, csV8, f2, -⟩ := hco.sum.form
      obtain ⟨PnV8, cnV8, f3, -⟩ := hco.mn.form
      obtain ⟨PmV8, cmV8, f4, -⟩ := hco.mx.form
      subst f1 f2 f3 f4
      clear hco hbv KP HTr hsz HBr
      have KP := KV8
      have HTr := TV8
      have hsz := ZV8
      have HBr := BV8
      clear KV8 TV8 ZV8 BV8
      refine hK.out _ _ (KP.out) (fun hHeld => ?_)
      clear hK K
      try simp only [List.getElem_toArray, List.getElem_cons_succ, List.getElem_cons_zero, Act.put, List.setIfInBounds_toArray, List.set_cons_zero, List.set_cons_succ]
      refine wpAnyH_ready (rs := [48]) (by kernel_rfl) (by simp) ?_
      refine AllReadyH.cons rfl (fun K hK => ?_) (AllReadyH.nil)
      go_simp
      refine (EF.out sc _ _ _ _ _ _ _ _ _ CV7b.out CV8.out).mono ?_
      rintro e V9 ⟨rfl, hbv⟩
      have KV9 := Lib.hid (KP.out.trans (Keeps.of_below hbv))
      have TV9 := Lib.hid (HTr.out.keep (Keeps.of_below hbv))
      have ZV9 : 1 < V9.heap.size := Nat.lt_of_lt_of_le hsz hbv.size
      have BV9 := Lib.hid (HBr.out.trans (hbv.mono HBr.out.size))
      clear hbv KP HTr hsz HBr
      have KP := KV9
      have HTr := TV9
      have hsz := ZV9
      have HBr := BV9
      clear KV9 TV9 ZV9 BV9
      refine hK.out _ _ (KP.out) (fun hHeld => ?_)
      clear hK K
      try simp only [List.getElem_toArray, List.getElem_cons_succ, List.getElem_cons_zero, Act.put, List.setIfInBounds_toArray, List.set_cons_zero, List.set_cons_succ]
      refine wpAnyH_take (i := 49) (v := ?va49) rfl (by kernel_rfl) (by kernel_rfl) (by kernel_rfl) (fun _ _ _ h => h) (Or.inl ⟨by rfl, ?ya49⟩) hHeld ?ra49
      case ya49 => (intro W hW; go_simp; first | done | with_reducible rfl)
      try simp only [List.getElem_toArray, List.getElem_cons_succ, List.getElem_cons_zero, Act.put, List.setIfInBounds_toArray, List.set_cons_zero, List.set_cons_succ]
      refine wpAnyH_take (i := 50) (v := ?va50) rfl (by kernel_rfl) (by kernel_rfl) (by kernel_rfl) (fun _ _ _ h => h) (Or.inl ⟨by rfl, ?ya50⟩) hHeld ?ra50
      case ya50 => (intro W hW; go_simp; first | done | with_reducible rfl)
      try simp only [List.getElem_toArray, List.getElem_cons_succ, List.getElem_cons_zero, Act.put, List.setIfInBounds_toArray, List.set_cons_zero, List.set_cons_succ]
      refine wpAnyH_done (by kernel_rfl) ?_ _
      go_wp2
      go_roundw
      case rel => exact ⟨i + 1, by go_num, by omega, HBr.out⟩
      case measure => simp [intOf]; omega
    · obtain rfl : i = m := by omega
      have d1 : decide ((i : Int) < (i : Int)) = false := by simp
      have Hf := Lib.hid (H45.out.trans (hb.mono H45.out.size))
      clear hb
      go_wp2
      go_ret
      exact ⟨rfl, Hf.out⟩
end Go.Proofs.YtpejdafijeagnaaDoor
