/- The law SortsLevels. -/
import Derived.Test.YtbmdiiifhccebaaDoorKn10
import Derived.Test.YtbmdiiifhccebaaDoorL8
import Derived.Test.YtbmdiiifhccebaaDoorRegion
import Derived.Test.YtbmdiiifhccebaaDoorRegP
import Derived.IntWalk
import Derived.Test.YtbmdiiifhccebaaDoorRlat
import Derived.Deep.CutRange
import Derived.Deep.DeepCutAuto
namespace Go.Proofs.YtbmdiiifhccebaaDoor
open Go.RowKit Go.Shelf
attribute [local go_sem] Oper.semAt_some
/-- How many edges of each level, of the first ones. -/
def cntL (f : Ed → Bool) (es : List Ed) (D k : Nat) : List Int := (List.range D).map fun (l : Nat) => (((es.take k).countP fun e => f e && lvl e.s == (l : Int) : Nat) : Int)
theorem cntL_len (f : Ed → Bool) (es : List Ed) (D k : Nat) : (cntL f es D k).length = D := by simp [cntL]
theorem cntL_at (f : Ed → Bool) (es : List Ed) {D l : Nat} (k : Nat) (h : l < D) : (cntL f es D k)[l]? = some (((es.take k).countP fun e => f e && lvl e.s == (l : Int) : Nat) : Int) := by
  unfold cntL
  rw [List.getElem?_map, List.getElem?_range h]; rfl
theorem cntL_zero (f : Ed → Bool) (es : List Ed) (D : Nat) : cntL f es D 0 = List.replicate D 0 := by
  apply List.ext_getElem
  · simp [cntL]
  · intro i h1 h2
    simp [cntL]
theorem cntL_skip {f : Ed → Bool} {es : List Ed} {k : Nat} {e : Ed} (D : Nat) (he : es[k]? = some e) (hf : f e = false) : cntL f es D (k + 1) = cntL f es D k := by
  unfold cntL
  apply List.map_congr_left
  intro l _
  rw [List.take_add_one, he, List.countP_append]
  simp [hf]
theorem cntL_set {f : Ed → Bool} {es : List Ed} {k l : Nat} {e : Ed} {D : Nat} (he : es[k]? = some e) (hf : f e = true) (hl : lvl e.s = (l : Int)) (hD : l < D) {x : Int} (hx : (cntL f es D k)[l]? = some x) : (cntL f es D k).set l (x + 1) = cntL f es D (k + 1) := by
  rw [cntL_at f es k hD] at hx
  injection hx with hx
  apply List.ext_getElem?
  intro i
  by_cases hi : i < D
  · rw [cntL_at f es (k + 1) hi, List.take_add_one, he, List.countP_append]
    by_cases hli : l = i
    · subst hli
      rw [List.getElem?_set_self (by rw [cntL_len]; exact hD), ← hx]
      simp [hf, hl]
    · rw [List.getElem?_set_ne hli, cntL_at f es k hi]
      have : ¬ lvl e.s = (i : Int) := by omega
      simp [this]
  · rw [List.getElem?_eq_none (by rw [List.length_set, cntL_len]; omega), List.getElem?_eq_none (by rw [cntL_len]; omega)]
theorem cntL_bd (f : Ed → Bool) (es : List Ed) {D l : Nat} (k : Nat) {x : Int} (hx : (cntL f es D k)[l]? = some x) : 0 ≤ x ∧ x ≤ k := by
  have hl : l < D := by have := (List.getElem?_eq_some_iff.1 hx).1; rwa [cntL_len] at this
  rw [cntL_at f es k hl] at hx
  injection hx with hx
  have := List.countP_le_length (p := fun e => f e && lvl e.s == (l : Int)) (l := es.take k)
  rw [List.length_take] at this
  omega
theorem nodup_le : ∀ (L M : List Int), L.Nodup → (∀ x ∈ L, x ∈ M) → L.length ≤ M.length
  | [], _, _, _ => Nat.zero_le _
  | a :: t, M, h, hs => by
    have hd := List.nodup_cons.1 h
    have ha := hs a (List.mem_cons_self ..)
    have ih := nodup_le t (M.erase a) hd.2 fun x hx => (List.mem_erase_of_ne (fun e => hd.1 (by rw [← e]; exact hx))).2 (hs x (List.mem_cons_of_mem _ hx))
    rw [List.length_erase_of_mem ha] at ih
    have := List.length_pos_of_mem ha
    simp only [List.length_cons]
    omega
/-- What the law asks of the counts. -/
theorem cnt_facts {cs : List Int} {n : Int} (g : Good cs n) (hn : 1 ≤ n) :
    (∀ l, l < cs.length → 1 ≤ (planM cs n).countP (fun e => e.sc && lvl e.s == (l : Int)) ∧ (planM cs n).countP (fun e => e.sc && lvl e.s == (l : Int)) ≤ (planM cs n).countP (fun e => true && lvl e.s == (l : Int)) ∧
      (planM cs n).countP (fun e => e.sc && lvl e.s == (l : Int)) ≤ (planM cs n).countP (fun e => true && lvl e.s == ((l + 1 : Nat) : Int))) ∧ (planM cs n).countP (fun e => e.sc && lvl e.s == (cs.length : Int)) = 0 := by
  have hr := plan_right g
  have hcs : ∀ l : Nat, (planM cs n).countP (fun e => true && lvl e.s == (l : Int)) = (levL cs.length l).length := fun l => by
    unfold levL
    rw [← List.countP_eq_length_filter, ← hr.sets, List.countP_map]
    congr 1
  have hin : ∀ l, l < cs.length → ∀ e ∈ edsM cs n l, e ∈ planM cs n := fun l hl e he => List.mem_cons_of_mem _ (List.mem_flatMap.2 ⟨cs.length - 1 - l, List.mem_range.2 (by omega), by rw [show cs.length - 1 - (cs.length - 1 - l) = l by omega]; exact he⟩)
  refine ⟨fun l hl => ⟨?_, ?_, ?_⟩, ?_⟩
  · have hlen := edsM_len g hl
    have h1 := (lev_len _ g.d1 g.d4 l hl).1
    obtain ⟨e, he⟩ : ∃ e, e ∈ edsM cs n l := by
      cases hE : edsM cs n l with
      | nil => rw [hE] at hlen; simp at hlen; omega
      | cons a t => exact ⟨a, List.mem_cons_self ..⟩
    obtain ⟨e', he', hs⟩ : ∃ e' ∈ edsM cs n l, e'.sc = true := by
      cases hsc : e.sc with
      | true => exact ⟨e, he, hsc⟩
      | false => obtain ⟨e', a, b, _⟩ := no_free g hn hl he hsc; exact ⟨e', a, b⟩
    refine List.countP_pos_iff.2 ⟨e', hin l hl e' he', ?_⟩
    have := (mem_lev.1 (edsM_mem g hl he').1).2
    simp [hs, this]
  · refine List.countP_mono_left fun e _ h => ?_
    simp only [Bool.and_eq_true] at h
    simp only [Bool.true_and]
    exact h.2
  · rw [hcs (l + 1), List.countP_eq_length_filter]
    have := nodup_le (((planM cs n).filter fun e => e.sc && lvl e.s == (l : Int)).map (·.p)) (levL cs.length (l + 1)) ?_ fun x hx => ?_
    · rwa [List.length_map] at this
    · refine List.pairwise_map.2 ?_
      have h2 := hr.once.filter fun e => e.sc && lvl e.s == (l : Int)
      refine List.Pairwise.imp_of_mem ?_ h2
      intro a b ha hb hab
      have ha' := (List.mem_filter.1 ha).2
      have hb' := (List.mem_filter.1 hb).2
      simp only [Bool.and_eq_true] at ha' hb'
      exact hab ha'.1 hb'.1
    · obtain ⟨e, he, rfl⟩ := List.mem_map.1 hx
      obtain ⟨he1, he2⟩ := List.mem_filter.1 he
      simp only [Bool.and_eq_true, beq_iff_eq] at he2
      have hp := hr.scan g.d1 g.d4 he1 he2.1
      have hps := (par_lvl _ g.d1 g.d4 _ (hr.mem he1) _ hp.1).2
      exact mem_lev.2 ⟨hps, by rw [hp.2, he2.2]; push_cast; rfl⟩
  · rw [List.countP_eq_zero]
    intro e he h
    simp only [Bool.and_eq_true, beq_iff_eq] at h
    have hp := hr.scan g.d1 g.d4 he h.1
    have hps := (par_lvl _ g.d1 g.d4 _ (hr.mem he) _ hp.1).2
    have := (lvl_sets _ g.d1 g.d4 _ hps).2.1
    omega
set_option maxRecDepth 100000 in
set_option maxHeartbeats 8000000 in
theorem sortsLevels_walk (a0 : Int) (a1 : Option Addr) (len1 cap1 : Nat) (z1 : List Int) (a2 : Int) (w : World) (h0 : inK .i64 a0) (w1 : IsRow .i64 w a1 len1 cap1 z1) (h2 : inK .i64 a2) (hT : Tab w) (hw1 : 1 < w.heap.size) :
    Calls Tryd.prog 5 #[.int .i64 a0, .slice a1 len1 cap1, .int .i64 a2] w fun e w' => e = .returned (.bool true) ∧ Below w.heap.size w w' := by
  obtain ⟨n1, lc1, cm1⟩ := w1.nums
  have N1 := Lib.hid n1
  have HKn := Lib.hid (known10_any w hT hw1)
  have HT := Lib.hid hT
  clear w1 n1 hT
  go_enter Tryd.func5, Tryd.ntmps5
  go_wp2_with fail
  refine HKn.out.mono ?_
  rintro e w1 ⟨rfl, hb1⟩
  have Hb1 := Lib.hid hb1
  clear hb1 HKn
  go_wp2_with fail
  refine (Facts_res a0 0 a1 none len1 cap1 0 0 _ [] w1 (N1.out.keep (Keeps.of_below Hb1.out)) (Nums.nil _ _ _) (by omega) (by omega) h0 (by constructor <;> omega)).mono ?_
  rintro e w2 ⟨A, c, D, d, C, q, mm, m, cs, l, rfl, hF⟩
  obtain ⟨k1, k2, k3⟩ : 1 ≤ q ∧ q ≤ 4 ∧ mm ≤ 2 := ⟨hF.q1, hF.q4, hF.m2⟩
  have hb2 : Below w.heap.size w w2 := Hb1.out.trans (hF.below.mono Hb1.out.size)
  have hck : checkB cs (mm : Int) = true := by rw [hF.ecs, hF.emm]; exact fCards_check _ _ _
  have hcl := hF.eq
  obtain ⟨W3, hW3⟩ : ∃ W3, W3 = w2.alloc (.cells #[.slice A q c, .int .i64 mm] 32) := ⟨_, rfl⟩
  have hb3 : Below w.heap.size w W3 := by rw [hW3]; exact hb2.alloc hb2.size _
  have hbx : Bx W3 w2.heap.size #[.slice A q c, .int .i64 mm] := by rw [hW3]; exact Bx.new _ _ _
  have hnq : Nums .i64 W3 A q cs := by rw [hW3]; exact hF.nums.keep (Keeps.of_below (below_box w2 _))
  have HFQ := Lib.hid (fun (n : Int) (W : World) (hb : Below W3.heap.size W3 W) (n0 : 0 ≤ n) (n3 : n ≤ 300) => (⟨hnq.keep (Keeps.of_below hb), k1, k2, k3, hF.c16, n0, n3, HT.out.below (hb3.trans (hb.mono hb3.size)) hw1, by have := hb3.size; have := hb.size; omega⟩ : FQ W A q mm cs n))
  have HGD := Lib.hid (fun (n : Int) (n0 : 0 ≤ n) (n3 : n ≤ 300) => (⟨hF.c16, by omega, by omega, n0, n3⟩ : Good cs n))
  have HNQ := Lib.hid hnq
  have HCK := Lib.hid hck
  have HB3 := Lib.hid hb3
  have HBX := Lib.hid hbx
  have HW3 := Lib.hid hW3
  have hg3 : w2.heap.size < W3.heap.size := block_lt (hbx 0 _ rfl)
  clear hF hnq hb3 hb2 hbx hck hW3
  have HWI := Lib.hid (fun W => lwithin10 a2 300 W h2 (by omega) (by omega))
  obtain ⟨r, hr⟩ : ∃ r, r = a2 % 300 := ⟨_, rfl⟩
  rw [← hr] at HWI
  have r0' : 0 ≤ r := by omega
  have r3' : r < 300 := by omega
  obtain ⟨n, hn⟩ : ∃ n, n = 1 + r := ⟨_, rfl⟩
  have hnw : IntKind.i64.wrap (1 + r) = n := by rw [hn]; exact IntWalk.i64_in _ (by omega)
  have n1 : 1 ≤ n := by omega
  have r0 : 0 ≤ n := by omega
  have r3 : n ≤ 300 := by omega
  have x0 : W3.cell? ⟨w2.heap.size, 0, none⟩ = some (.slice A q c) := HBX.out 0 _ rfl
  have x1 : W3.cell? ⟨w2.heap.size, 1, none⟩ = some (.int .i64 mm) := HBX.out 1 _ rfl
  have hg := HGD.out n r0 r3
  have hrp := plan_right hg
  have hcf := cnt_facts hg n1
  rw [hcl] at hrp hcf
  have HPL := Lib.hid (plan_any A q c mm cs n W3.drew (HFQ.out n _ (Below.refl _ W3).drew r0 r3) HCK.out)
  obtain ⟨es, hes⟩ : ∃ es, es = planM cs n := ⟨_, rfl⟩
  rw [← hes] at HPL hrp hcf
  have hlv : ∀ e ∈ es, ∃ l : Nat, lvl e.s = (l : Int) ∧ l ≤ q ∧ 0 ≤ e.s ∧ e.s ≤ 15 ∧ (0 ≤ e.p → lvl e.p = (l : Int) + 1 ∧ e.p ≤ 15) := fun e he => by
    obtain ⟨a, b, c', d'⟩ := lvl_sets q k1 k2 _ (hrp.mem he)
    refine ⟨(lvl e.s).toNat, by omega, by omega, c', d', fun hp => ?_⟩
    have he2 := he
    rw [hrp.cons] at he2
    rcases List.mem_cons.1 he2 with rfl | h3
    · exact absurd hp (by simp [topE])
    · have := par_lvl q k1 k2 _ (hrp.mem he) _ (hrp.par e h3)
      have h5 := (lvl_sets q k1 k2 _ this.2).2.2.2
      exact ⟨by omega, h5⟩
  have HLV := Lib.hid hlv
  have HI := Lib.hid (right_in k1 k2 hrp)
  have HCF := Lib.hid hcf
  have hlen : es.length = 2 ^ q := by rw [← setsL_len q k1 k2, ← hrp.sets, List.length_map]
  have n16 := (pow_16 q k2).1
  obtain ⟨N, hN⟩ : ∃ N, N = es.length := ⟨_, rfl⟩
  have hNp : 1 ≤ N := by rw [hN, hlen]; exact Nat.two_pow_pos q
  have hN16 : N ≤ 16 := by omega
  have HNE := Lib.hid hN
  obtain ⟨D, hD⟩ : ∃ D, D = q + 1 := ⟨_, rfl⟩
  have hD5 : D ≤ 5 := by omega
  have hDq : (q : Int) + 1 = (D : Int) := by omega
  have hDw : IntKind.i64.wrap ((q : Int) + 1) = (D : Int) := by rw [IntWalk.i64_in _ (by omega)]; exact hDq
  have HDD := Lib.hid hD
  clear hr hn hg hrp hcf hes hlv hlen n16 hD hDq
  go_wp2_with fail
  rw [← HW3.out]
  refine wp_region_held_drew (S := fun W => W.cell? ⟨w2.heap.size, 0, none⟩ = some (.slice A q c) ∧ W.cell? ⟨w2.heap.size, 1, none⟩ = some (.int .i64 mm)) (by kernel_rfl) ⟨x0, x1⟩ (fun hHeld => ?_)
  refine wpAnyH_take (i := 0) (v := ?va0) rfl (by kernel_rfl) (by kernel_rfl) (by kernel_rfl) (fun _ _ _ h => h) (Or.inl ⟨by rfl, ?ya0⟩) hHeld ?ra0
  case ya0 => (intro W hW; obtain ⟨hW0, hW1⟩ := hW; go_simp; first | done | with_reducible rfl)
  try simp only [List.getElem_toArray, List.getElem_cons_zero, Act.put, List.setIfInBounds_toArray, List.set_cons_zero, List.set_cons_succ]
  refine wpAnyH_take (i := 1) (v := ?va1) rfl (by kernel_rfl) (by kernel_rfl) (by kernel_rfl) (fun _ _ _ h => h) (Or.inl ⟨by rfl, ?ya1⟩) hHeld ?ra1
  case ya1 => (intro W hW; obtain ⟨hW0, hW1⟩ := hW; go_simp; first | done | with_reducible rfl)
  try simp only [List.getElem_toArray, List.getElem_cons_succ, List.getElem_cons_zero, Act.put, List.setIfInBounds_toArray, List.set_cons_zero, List.set_cons_succ]
  refine wpAnyH_ready (rs := [2]) (by kernel_rfl) (by simp) ?_
  refine AllReadyH.cons rfl (fun K hK => ?_) (AllReadyH.nil)
  go_simp
  refine (HWI.out _).mono ?_
  rintro e w' ⟨rfl, rfl⟩
  refine hK.out _ _ (hHeld) (fun hHeld => ?_)
  clear hK K
  try simp only [List.getElem_toArray, List.getElem_cons_succ, List.getElem_cons_zero, Act.put, List.setIfInBounds_toArray, List.set_cons_zero, List.set_cons_succ]
  refine wpAnyH_take (i := 3) (v := ?va3) rfl (by kernel_rfl) (by kernel_rfl) (by kernel_rfl) (fun _ _ _ h => h) (Or.inl ⟨by rfl, ?ya3⟩) hHeld ?ra3
  case ya3 => (intro W hW; obtain ⟨hW0, hW1⟩ := hW; go_simp; first | done | with_reducible rfl)
  try simp only [List.getElem_toArray, List.getElem_cons_succ, List.getElem_cons_zero, Act.put, List.setIfInBounds_toArray, List.set_cons_zero, List.set_cons_succ]
  refine wpAnyH_ready (rs := [4]) (by kernel_rfl) (by simp) ?_
  refine AllReadyH.cons rfl (fun K hK => ?_) (AllReadyH.nil)
  go_simp
  refine HPL.out.mono ?_
  rintro e w4 ⟨v, rfl, ho, hb4⟩
  have k4 := Keeps.of_below hb4
  have HB4 := Lib.hid ((Below.refl W3.heap.size W3).drew.trans (hb4.mono (Nat.le_refl _)))
  have HO4 := Lib.hid ho
  clear hb4 ho
  refine hK.out _ _ (⟨k4 _ _ x0, k4 _ _ x1⟩) (fun hHeld => ?_)
  clear hK K
  try simp only [List.getElem_toArray, List.getElem_cons_succ, List.getElem_cons_zero, Act.put, List.setIfInBounds_toArray, List.set_cons_zero, List.set_cons_succ]
  refine wpAnyH_take (i := 5) (v := ?va5) rfl (by kernel_rfl) (by kernel_rfl) (by kernel_rfl) (fun _ _ _ h => h) (Or.inl ⟨by rfl, ?ya5⟩) hHeld ?ra5
  case ya5 => (intro W hW; obtain ⟨hW0, hW1⟩ := hW; go_simp; first | done | with_reducible rfl)
  try simp only [List.getElem_toArray, List.getElem_cons_succ, List.getElem_cons_zero, Act.put, List.setIfInBounds_toArray, List.set_cons_zero, List.set_cons_succ]
  refine wpAnyH_done (by kernel_rfl) ?_ _
  obtain ⟨P, cP, rfl, hE, hnc⟩ := HO4.out.form2 HI.out
  rw [← hN] at hE hnc ⊢
  obtain ⟨g, o, rfl, hcs⟩ := hE.2.2 (by omega)
  have HCS := Lib.hid hcs
  have y0 := hHeld.1
  clear hE hcs hHeld hN
  clear hHeld k4
  try clear hHeld
  obtain ⟨i0, hi, hz0, hz1, hz2⟩ := info_parts infoI
  have hmk := fun W => make_ints (P := Tryd.prog) 23 3 i0 Tryd.underlying23 hi hz0 hz1 hz2 D (Nat.le_trans hD5 (by decide)) W
  obtain ⟨WZ, hWZ⟩ : ∃ WZ, WZ = ((w4.drew.alloc (.cells (madeCells #[.int .i64 0] D) 3)).alloc (.cells (madeCells #[.int .i64 0] D) 3)) := ⟨_, rfl⟩
  have hz1' : Arr .i64 3 WZ w4.heap.size (List.replicate D 0) := by rw [hWZ]; exact (Arr.made w4.drew 3 D).alloc _
  have hz2' : Arr .i64 3 WZ (w4.heap.size + 1) (List.replicate D 0) := by
    rw [hWZ]
    have := Arr.made (w4.drew.alloc (.cells (madeCells #[.int .i64 0] D) 3)) 3 D
    rw [World.size_alloc] at this
    exact this
  have hbz : Below w4.heap.size w4 WZ := by rw [hWZ]; exact ((Below.refl w4.heap.size w4).drew.alloc (Nat.le_refl _) _).alloc (by simp) _
  have HZ12 := Lib.hid (And.intro hz1' hz2')
  have HZ21 := Lib.hid (And.intro hz2' hz1')
  have HBZ := Lib.hid hbz
  rw [hWZ] at HZ12 HZ21 HBZ
  clear hWZ hz1' hz2' hbz hi hz0 hz1 hz2
  have hk1 := hmk w4.drew
  have hk2 := hmk (w4.alloc (.cells (madeCells #[.int .i64 0] D) 3)).drew
  have hk3 := hmk (w4.drew.alloc (.cells (madeCells #[.int .i64 0] D) 3))
  clear hmk
  go_upto_region 6 with (fail)
  go_cut [11, 12] from 32 to 37 (fun s11 s12 wx => ∃ g1 g2, s11 = .slice (some ⟨g1, 0, none⟩) D D ∧ s12 = .slice (some ⟨g2, 0, none⟩) D D ∧ g1 ≠ g2 ∧ Arr .i64 3 wx g1 (List.replicate D 0) ∧ Arr .i64 3 wx g2 (List.replicate D 0) ∧ w4.heap.size ≤ g1 ∧ w4.heap.size ≤ g2 ∧ Below w4.heap.size w4 wx)
  case first =>
    refine wp_region_held_drew (S := fun _ => True) (by kernel_rfl) trivial (fun hHeld => ?_)
    refine wpAnyH_take (i := 0) (v := ?vm0) rfl (by kernel_rfl) (by kernel_rfl) (by kernel_rfl) (fun _ _ _ h => h) (Or.inl ⟨by rfl, ?ym0⟩) hHeld ?rm0
    case ym0 => (intro W hW; go_simp; first | done | with_reducible rfl)
    try simp only [List.getElem_toArray, List.getElem_cons_zero, Act.put, List.setIfInBounds_toArray, List.set_cons_zero, List.set_cons_succ]
    refine wpAnyH_take (i := 1) (v := ?vm1) rfl (by kernel_rfl) (by kernel_rfl) (by kernel_rfl) (fun _ _ _ h => h) (Or.inl ⟨by rfl, ?ym1⟩) hHeld ?rm1
    case ym1 => (intro W hW; go_simp; first | done | with_reducible rfl)
    try simp only [List.getElem_toArray, List.getElem_cons_succ, List.getElem_cons_zero, Act.put, List.setIfInBounds_toArray, List.set_cons_zero, List.set_cons_succ]
    refine wpAnyH_take (i := 3) (v := ?vm3) rfl (by kernel_rfl) (by kernel_rfl) (by kernel_rfl) (fun _ _ _ h => h) (Or.inl ⟨by rfl, ?ym3⟩) hHeld ?rm3
    case ym3 => (intro W hW; go_simp; first | done | with_reducible rfl)
    try simp only [List.getElem_toArray, List.getElem_cons_succ, List.getElem_cons_zero, Act.put, List.setIfInBounds_toArray, List.set_cons_zero, List.set_cons_succ]
    refine wpAnyH_take (i := 4) (v := ?vm4) rfl (by kernel_rfl) (by kernel_rfl) (by kernel_rfl) (fun _ _ _ h => h) (Or.inl ⟨by rfl, ?ym4⟩) hHeld ?rm4
    case ym4 => (intro W hW; go_simp; first | done | with_reducible rfl)
    try simp only [List.getElem_toArray, List.getElem_cons_succ, List.getElem_cons_zero, Act.put, List.setIfInBounds_toArray, List.set_cons_zero, List.set_cons_succ]
    refine wpAnyH_ready (rs := [2, 5]) (by kernel_rfl) (by simp) ?_
    refine AllReadyH.cons rfl (fun K hK => ?_) (AllReadyH.cons rfl (fun K hK => ?_) (AllReadyH.nil))
    ·
      go_simp
      refine hK.out _ _ trivial (fun hHeld => ?_)
      clear hK K
      try simp only [List.getElem_toArray, List.getElem_cons_succ, List.getElem_cons_zero, Act.put, List.setIfInBounds_toArray, List.set_cons_zero, List.set_cons_succ]
      refine wpAnyH_take (i := 6) (v := ?vma6) rfl (by kernel_rfl) (by kernel_rfl) (by kernel_rfl) (fun _ _ _ h => h) (Or.inl ⟨by rfl, ?yma6⟩) hHeld ?rma6
      case yma6 => (intro W hW; go_simp; first | done | with_reducible rfl)
      try simp only [List.getElem_toArray, List.getElem_cons_succ, List.getElem_cons_zero, Act.put, List.setIfInBounds_toArray, List.set_cons_zero, List.set_cons_succ]
      refine wpAnyH_ready (rs := [5]) (by kernel_rfl) (by simp) ?_
      refine AllReadyH.cons rfl (fun K hK => ?_) (AllReadyH.nil)
      go_simp
      refine hK.out _ _ trivial (fun hHeld => ?_)
      clear hK K
      try simp only [List.getElem_toArray, List.getElem_cons_succ, List.getElem_cons_zero, Act.put, List.setIfInBounds_toArray, List.set_cons_zero, List.set_cons_succ]
      refine wpAnyH_take (i := 7) (v := ?vmb7) rfl (by kernel_rfl) (by kernel_rfl) (by kernel_rfl) (fun _ _ _ h => h) (Or.inl ⟨by rfl, ?ymb7⟩) hHeld ?rmb7
      case ymb7 => (intro W hW; go_simp; first | done | with_reducible rfl)
      try simp only [List.getElem_toArray, List.getElem_cons_succ, List.getElem_cons_zero, Act.put, List.setIfInBounds_toArray, List.set_cons_zero, List.set_cons_succ]
      refine wpAnyH_done (by kernel_rfl) ?_ _
      go_wp2_with fail
      go_meet
      exact ⟨w4.heap.size, w4.heap.size + 1, rfl, rfl, by omega, HZ12.out.1, HZ12.out.2, by omega, by omega, HBZ.out⟩
    ·
      go_simp
      refine hK.out _ _ trivial (fun hHeld => ?_)
      clear hK K
      try simp only [List.getElem_toArray, List.getElem_cons_succ, List.getElem_cons_zero, Act.put, List.setIfInBounds_toArray, List.set_cons_zero, List.set_cons_succ]
      refine wpAnyH_ready (rs := [2]) (by kernel_rfl) (by simp) ?_
      refine AllReadyH.cons rfl (fun K hK => ?_) (AllReadyH.nil)
      go_simp
      refine hK.out _ _ trivial (fun hHeld => ?_)
      clear hK K
      try simp only [List.getElem_toArray, List.getElem_cons_succ, List.getElem_cons_zero, Act.put, List.setIfInBounds_toArray, List.set_cons_zero, List.set_cons_succ]
      refine wpAnyH_take (i := 6) (v := ?vmc6) rfl (by kernel_rfl) (by kernel_rfl) (by kernel_rfl) (fun _ _ _ h => h) (Or.inl ⟨by rfl, ?ymc6⟩) hHeld ?rmc6
      case ymc6 => (intro W hW; go_simp; first | done | with_reducible rfl)
      try simp only [List.getElem_toArray, List.getElem_cons_succ, List.getElem_cons_zero, Act.put, List.setIfInBounds_toArray, List.set_cons_zero, List.set_cons_succ]
      refine wpAnyH_take (i := 7) (v := ?vmc7) rfl (by kernel_rfl) (by kernel_rfl) (by kernel_rfl) (fun _ _ _ h => h) (Or.inl ⟨by rfl, ?ymc7⟩) hHeld ?rmc7
      case ymc7 => (intro W hW; go_simp; first | done | with_reducible rfl)
      try simp only [List.getElem_toArray, List.getElem_cons_succ, List.getElem_cons_zero, Act.put, List.setIfInBounds_toArray, List.set_cons_zero, List.set_cons_succ]
      refine wpAnyH_done (by kernel_rfl) ?_ _
      go_wp2_with fail
      go_meet
      exact ⟨w4.heap.size + 1, w4.heap.size, rfl, rfl, by omega, HZ21.out.1, HZ21.out.2, by omega, by omega, HBZ.out⟩
  case rest =>
    obtain ⟨g1, g2, rfl, rfl, hne, hz1, hz2, hg1, hg2, hbx⟩ := hcut
    rename World => wx
    rw [← cntL_zero (fun e => e.sc) es D] at hz1
    rw [← cntL_zero (fun _ => true) es D] at hz2
    have HZ1 := Lib.hid hz1
    have HZ2 := Lib.hid hz2
    have HBX4 := Lib.hid hbx
    clear hz1 hz2 hbx hk1 hk2 hk3 HZ12 HZ21 HBZ y0
    have hgl1 := HZ1.out.lt
    have hgl2 := HZ2.out.lt
    go_wp2_with fail
    go_loopw [13] (fun i wr => ∃ k : Nat, i = .int .i64 k ∧ k ≤ N ∧ Arr .i64 3 wr g1 (cntL (fun e => e.sc) es D k) ∧ Arr .i64 3 wr g2 (cntL (fun _ => true) es D k) ∧ Below w4.heap.size w4 wr) (fun i _ => N - (intOf i).toNat)
    case atStart => exact ⟨0, rfl, Nat.zero_le _, HZ1.out, HZ2.out, HBX4.out⟩
    case round =>
      obtain ⟨k, rfl, hk, ha1, ha2, hb⟩ := hrel
      rename World => wr
      have HA1 := Lib.hid ha1
      have HA2 := Lib.hid ha2
      have HB := Lib.hid hb
      have kw := Keeps.of_below hb
      clear ha1 ha2 hb
      by_cases hkN : k < N
      · obtain ⟨e, he⟩ : ∃ e, es[k]? = some e := ⟨_, List.getElem?_eq_getElem (by rw [← HNE.out]; exact hkN)⟩
        obtain ⟨y0, y1, y2⟩ := HCS.out k e he
        have v0 := kw _ _ y0
        have v1 := kw _ _ y1
        have v2 := kw _ _ y2
        obtain ⟨l, hl, hlq, s0, s15, hpl⟩ := HLV.out e (List.mem_of_getElem? he)
        have hlD : l < D := by rw [HDD.out]; omega
        have HLS := Lib.hid (rLvl_any e.s wr s0 s15)
        rw [hl] at HLS
        obtain ⟨x2, hx2⟩ : ∃ x, (cntL (fun _ => true) es D k)[l]? = some x := ⟨_, cntL_at _ es k hlD⟩
        have hset2 := cntL_set he (f := fun _ => true) rfl hl hlD hx2
        have hbd2 := cntL_bd _ es k hx2
        have hc2 := HA2.out.cell hx2
        have hf2 := HA2.out.frozen l
        have ha2n := HA2.out.set_ l (x2 + 1)
        rw [hset2] at ha2n
        have HA2N := Lib.hid ha2n
        have ha1o : Arr .i64 3 (wr.setCell ⟨g2, l, none⟩ (.int .i64 (x2 + 1))) g1 (cntL (fun e => e.sc) es D k) := (Below.heap_setCell _ _ _ _ hne).trans HA1.out
        have HA1O := Lib.hid ha1o
        obtain ⟨x1', hx1⟩ : ∃ x, (cntL (fun e => e.sc) es D k)[l]? = some x := ⟨_, cntL_at _ es k hlD⟩
        have hbd1 := cntL_bd _ es k hx1
        have HX1 := Lib.hid hx1
        have HEE := Lib.hid he
        have HLL := Lib.hid hl
        have kk0 : (0 : Int) ≤ (k : Int) := by omega
        have kk1 : (k : Int) < (N : Int) := by omega
        have ll0 : (0 : Int) ≤ (l : Int) := by omega
        have ll1 : (l : Int) < (D : Int) := by omega
        have lq1 : ¬ (q : Int) < (l : Int) := by omega
        have hHB1 := Lib.hid (HB.out.setCell (p := ⟨g2, l, none⟩) hg2 (.int .i64 (x2 + 1)))
        have hw1' : IntKind.i64.wrap (x2 + 1) = x2 + 1 := IntWalk.i64_in _ (by omega)
        have hw2' : IntKind.i64.wrap (x1' + 1) = x1' + 1 := IntWalk.i64_in _ (by omega)
        have hbk : ∀ i', (wr.setCell ⟨g2, l, none⟩ (.int .i64 (x2 + 1))).cell? ⟨g, i', none⟩ = wr.cell? ⟨g, i', none⟩ := fun i' => World.cell?_of_block (Below.heap_setCell _ _ _ _ (by
          have h4 := block_lt y0
          dsimp only at h4 ⊢
          omega))
        have hgg2 : ¬ g = g2 := by have h4 := block_lt y0; dsimp only at h4; omega
        have hgg1 : ¬ g = g1 := by have h4 := block_lt y0; dsimp only at h4; omega
        clear y0 y1 y2 hl hx2 hset2 ha2n ha1o hx1 he kw
        obtain ⟨sc, hsc⟩ : ∃ sc, sc = e.sc := ⟨_, rfl⟩
        rw [← hsc] at v2
        have HSC := Lib.hid hsc
        clear hsc
        have hcut : e.p < 0 ∨ 0 ≤ e.p := by omega
        rcases hcut with hp | hp
        ·
          cases sc with
          | false =>
            have hsk := cntL_skip D HEE.out (f := fun e => e.sc) HSC.out.symm
            have HSK := Lib.hid hsk
            clear hsk
            go_wp2_with fail
            refine HLS.out.mono ?_
            rintro e9 w' ⟨rfl, rfl⟩
            go_wp2
            go_roundw
            case rel => exact ⟨k + 1, by go_num, by omega, by rw [HSK.out]; exact HA1O.out, HA2N.out, hHB1.out⟩
            case measure => simp [intOf]; omega
          | true =>
            have hset1 := cntL_set HEE.out (f := fun e => e.sc) HSC.out.symm HLL.out hlD HX1.out
            have ha1n := HA1O.out.set_ l (x1' + 1)
            rw [hset1] at ha1n
            have HA1N := Lib.hid ha1n
            have ha2n : Arr .i64 3 ((wr.setCell ⟨g2, l, none⟩ (.int .i64 (x2 + 1))).setCell ⟨g1, l, none⟩ (.int .i64 (x1' + 1))) g2 (cntL (fun _ => true) es D (k + 1)) := (Below.heap_setCell _ _ _ _ (Ne.symm hne)).trans HA2N.out
            have HA2M := Lib.hid ha2n
            have HBM := Lib.hid (hHB1.out.setCell (p := ⟨g1, l, none⟩) hg1 (.int .i64 (x1' + 1)))
            have hc1 := HA1.out.cell HX1.out
            have hf1 := HA1.out.frozen l
            have hne2 : ¬ g2 = g1 := fun e => hne e.symm
            clear hset1 ha1n ha2n
            go_wp2_with fail
            refine HLS.out.mono ?_
            rintro e9 w' ⟨rfl, rfl⟩
            go_wp2
            go_roundw
            case rel => exact ⟨k + 1, by go_num, by omega, HA1N.out, HA2M.out, HBM.out⟩
            case measure => simp [intOf]; omega
        · obtain ⟨hp1, hp15⟩ := hpl hp
          have HLP := Lib.hid (rLvl_any e.p wr hp hp15)
          rw [hp1] at HLP
          have hnp : ¬ e.p < 0 := by omega
          have hll : (((l : Int) + 1) != ((l : Int) + 1)) = false := by simp
          have hlw : IntKind.i64.wrap ((l : Int) + 1) = (l : Int) + 1 := IntWalk.i64_in _ (by omega)
          clear hp1
          cases sc with
          | false =>
            have hsk := cntL_skip D HEE.out (f := fun e => e.sc) HSC.out.symm
            have HSK := Lib.hid hsk
            clear hsk
            go_wp2_with fail
            refine HLS.out.mono ?_
            rintro e9 w' ⟨rfl, rfl⟩
            go_wp2_with fail
            refine HLP.out.mono ?_
            rintro e9 w' ⟨rfl, rfl⟩
            go_wp2
            go_roundw
            case rel => exact ⟨k + 1, by go_num, by omega, by rw [HSK.out]; exact HA1O.out, HA2N.out, hHB1.out⟩
            case measure => simp [intOf]; omega
          | true =>
            have hset1 := cntL_set HEE.out (f := fun e => e.sc) HSC.out.symm HLL.out hlD HX1.out
            have ha1n := HA1O.out.set_ l (x1' + 1)
            rw [hset1] at ha1n
            have HA1N := Lib.hid ha1n
            have ha2n : Arr .i64 3 ((wr.setCell ⟨g2, l, none⟩ (.int .i64 (x2 + 1))).setCell ⟨g1, l, none⟩ (.int .i64 (x1' + 1))) g2 (cntL (fun _ => true) es D (k + 1)) := (Below.heap_setCell _ _ _ _ (Ne.symm hne)).trans HA2N.out
            have HA2M := Lib.hid ha2n
            have HBM := Lib.hid (hHB1.out.setCell (p := ⟨g1, l, none⟩) hg1 (.int .i64 (x1' + 1)))
            have hc1 := HA1.out.cell HX1.out
            have hf1 := HA1.out.frozen l
            have hne2 : ¬ g2 = g1 := fun e => hne e.symm
            clear hset1 ha1n ha2n
            go_wp2_with fail
            refine HLS.out.mono ?_
            rintro e9 w' ⟨rfl, rfl⟩
            go_wp2_with fail
            refine HLP.out.mono ?_
            rintro e9 w' ⟨rfl, rfl⟩
            go_wp2
            go_roundw
            case rel => exact ⟨k + 1, by go_num, by omega, HA1N.out, HA2M.out, HBM.out⟩
            case measure => simp [intOf]; omega
      · obtain rfl : k = N := by omega
        have hca : ∀ f, cntL f es D k = (List.range D).map fun (l : Nat) => ((es.countP fun e => f e && lvl e.s == (l : Int) : Nat) : Int) := fun f => by
          unfold cntL
          rw [List.take_of_length_le (by rw [← HNE.out]; omega)]
        have hat : ∀ f (l : Nat), l < D → (cntL f es D k)[l]? = some ((es.countP fun e => f e && lvl e.s == (l : Int) : Nat) : Int) := fun f l hl => by
          rw [hca, List.getElem?_map, List.getElem?_range hl]; rfl
        have HAT := Lib.hid hat
        have hbf := HB3.out.trans (HB4.out.mono HB3.out.size)
        have HBF := Lib.hid (hbf.trans (HB.out.mono hbf.size))
        clear hca hat hbf kw
        go_wp2_with fail
        go_loopw [15] (fun i wq => ∃ l : Nat, i = .int .i64 l ∧ l ≤ q ∧ Below wr.heap.size wr wq) (fun i _ => q - (intOf i).toNat)
        case atStart => exact ⟨0, rfl, Nat.zero_le _, Below.refl _ _⟩
        case round =>
          obtain ⟨l, rfl, hl, hb⟩ := hrel
          rename World => wq
          have HBq := Lib.hid hb
          have hq1 := HA1.out.below hb HA1.out.lt
          have hq2 := HA2.out.below hb HA2.out.lt
          by_cases hlq : l < q
          · obtain ⟨⟨f1, f2, f3⟩, -⟩ := And.intro (HCF.out.1 l hlq) trivial
            have c1 := hq1.cell (HAT.out (fun e => e.sc) l (by rw [HDD.out]; omega))
            have c2 := hq2.cell (HAT.out (fun _ => true) l (by rw [HDD.out]; omega))
            have c3 := hq2.cell (HAT.out (fun _ => true) (l + 1) (by rw [HDD.out]; omega))
            obtain ⟨n1', hn1⟩ : ∃ x : Nat, x = es.countP fun e => e.sc && lvl e.s == (l : Int) := ⟨_, rfl⟩
            obtain ⟨n2', hn2⟩ : ∃ x : Nat, x = es.countP fun e => true && lvl e.s == (l : Int) := ⟨_, rfl⟩
            obtain ⟨n3', hn3⟩ : ∃ x : Nat, x = es.countP fun e => true && lvl e.s == ((l + 1 : Nat) : Int) := ⟨_, rfl⟩
            rw [← hn1] at c1 f1 f2 f3
            rw [← hn2] at c2 f2
            rw [← hn3] at c3 f3
            obtain ⟨L1, hL1⟩ : ∃ L1, L1 = l + 1 := ⟨_, rfl⟩
            rw [← hL1] at c3
            have HL1 := Lib.hid hL1
            have hLw : IntKind.i64.wrap ((l : Int) + 1) = (L1 : Int) := by rw [IntWalk.i64_in _ (by omega)]; omega
            have hLD : (L1 : Int) < (D : Int) := by have := HDD.out; omega
            have hL0 : (0 : Int) ≤ (L1 : Int) := by omega
            have hl0 : (0 : Int) ≤ (l : Int) := by omega
            have hlD : (l : Int) < (D : Int) := by have := HDD.out; omega
            have hlq2 : (l : Int) < (q : Int) := by omega
            have g1' : decide ((n3' : Int) < (n1' : Int)) = false := decide_eq_false (by omega)
            have g2' : decide ((n2' : Int) < (n1' : Int)) = false := decide_eq_false (by omega)
            have g3' : decide ((n1' : Int) < 1) = false := decide_eq_false (by omega)
            have g1n : decide (n3' < n1') = false := decide_eq_false (by omega)
            have g2n : decide (n2' < n1') = false := decide_eq_false (by omega)
            have g3n : decide (n1' < 1) = false := decide_eq_false (by omega)
            have g3m : decide (n1' = 0) = false := decide_eq_false (by omega)
            clear hn1 hn2 hn3 hL1 hq1 hq2 hb f1 f2 f3
            go_wp2_with fail
            refine wp_region_held_drew (S := fun W => W.cell? ⟨g1, l, none⟩ = some (.int .i64 (n1' : Int)) ∧ W.cell? ⟨g2, l, none⟩ = some (.int .i64 (n2' : Int)) ∧ W.cell? ⟨g2, L1, none⟩ = some (.int .i64 (n3' : Int))) (by kernel_rfl) ⟨c1, c2, c3⟩ (fun hHeld => ?_)
            refine wpAnyH_take (i := 0) (v := ?vz0) rfl (by kernel_rfl) (by kernel_rfl) (by kernel_rfl) (fun _ _ _ h => h) (Or.inl ⟨by rfl, ?yz0⟩) hHeld ?rz0
            case yz0 => (intro W hW; obtain ⟨hW0, hW1, hW2⟩ := hW; go_simp; first | done | with_reducible rfl)
            try simp only [List.getElem_toArray, List.getElem_cons_zero, Act.put, List.setIfInBounds_toArray, List.set_cons_zero, List.set_cons_succ]
            refine wpAnyH_take (i := 1) (v := ?vz1) rfl (by kernel_rfl) (by kernel_rfl) (by kernel_rfl) (fun _ _ _ h => h) (Or.inl ⟨by rfl, ?yz1⟩) hHeld ?rz1
            case yz1 => (intro W hW; obtain ⟨hW0, hW1, hW2⟩ := hW; go_simp; first | done | with_reducible rfl)
            try simp only [List.getElem_toArray, List.getElem_cons_succ, List.getElem_cons_zero, Act.put, List.setIfInBounds_toArray, List.set_cons_zero, List.set_cons_succ]
            refine wpAnyH_take (i := 2) (v := ?vz2) rfl (by kernel_rfl) (by kernel_rfl) (by kernel_rfl) (fun _ _ _ h => h) (Or.inl ⟨by rfl, ?yz2⟩) hHeld ?rz2
            case yz2 => (intro W hW; obtain ⟨hW0, hW1, hW2⟩ := hW; go_simp; first | done | with_reducible rfl)
            try simp only [List.getElem_toArray, List.getElem_cons_succ, List.getElem_cons_zero, Act.put, List.setIfInBounds_toArray, List.set_cons_zero, List.set_cons_succ]
            refine wpAnyH_take (i := 3) (v := ?vz3) rfl (by kernel_rfl) (by kernel_rfl) (by kernel_rfl) (fun _ _ _ h => h) (Or.inl ⟨by rfl, ?yz3⟩) hHeld ?rz3
            case yz3 => (intro W hW; obtain ⟨hW0, hW1, hW2⟩ := hW; go_simp; first | done | with_reducible rfl)
            try simp only [List.getElem_toArray, List.getElem_cons_succ, List.getElem_cons_zero, Act.put, List.setIfInBounds_toArray, List.set_cons_zero, List.set_cons_succ]
            refine wpAnyH_take (i := 4) (v := ?vz4) rfl (by kernel_rfl) (by kernel_rfl) (by kernel_rfl) (fun _ _ _ h => h) (Or.inl ⟨by rfl, ?yz4⟩) hHeld ?rz4
            case yz4 => (intro W hW; obtain ⟨hW0, hW1, hW2⟩ := hW; go_simp; first | done | with_reducible rfl)
            try simp only [List.getElem_toArray, List.getElem_cons_succ, List.getElem_cons_zero, Act.put, List.setIfInBounds_toArray, List.set_cons_zero, List.set_cons_succ]
            refine wpAnyH_take (i := 5) (v := ?vz5) rfl (by kernel_rfl) (by kernel_rfl) (by kernel_rfl) (fun _ _ _ h => h) (Or.inl ⟨by rfl, ?yz5⟩) hHeld ?rz5
            case yz5 => (intro W hW; obtain ⟨hW0, hW1, hW2⟩ := hW; go_simp; first | done | with_reducible rfl)
            try simp only [List.getElem_toArray, List.getElem_cons_succ, List.getElem_cons_zero, Act.put, List.setIfInBounds_toArray, List.set_cons_zero, List.set_cons_succ]
            refine wpAnyH_take (i := 6) (v := ?vz6) rfl (by kernel_rfl) (by kernel_rfl) (by kernel_rfl) (fun _ _ _ h => h) (Or.inl ⟨by rfl, ?yz6⟩) hHeld ?rz6
            case yz6 => (intro W hW; obtain ⟨hW0, hW1, hW2⟩ := hW; go_simp; first | done | with_reducible rfl)
            try simp only [List.getElem_toArray, List.getElem_cons_succ, List.getElem_cons_zero, Act.put, List.setIfInBounds_toArray, List.set_cons_zero, List.set_cons_succ]
            refine wpAnyH_take (i := 7) (v := ?vz7) rfl (by kernel_rfl) (by kernel_rfl) (by kernel_rfl) (fun _ _ _ h => h) (Or.inl ⟨by rfl, ?yz7⟩) hHeld ?rz7
            case yz7 => (intro W hW; obtain ⟨hW0, hW1, hW2⟩ := hW; go_simp; first | done | with_reducible rfl)
            try simp only [List.getElem_toArray, List.getElem_cons_succ, List.getElem_cons_zero, Act.put, List.setIfInBounds_toArray, List.set_cons_zero, List.set_cons_succ]
            refine wpAnyH_take (i := 8) (v := ?vz8) rfl (by kernel_rfl) (by kernel_rfl) (by kernel_rfl) (fun _ _ _ h => h) (Or.inl ⟨by rfl, ?yz8⟩) hHeld ?rz8
            case yz8 => (intro W hW; obtain ⟨hW0, hW1, hW2⟩ := hW; go_simp; first | done | with_reducible rfl)
            try simp only [List.getElem_toArray, List.getElem_cons_succ, List.getElem_cons_zero, Act.put, List.setIfInBounds_toArray, List.set_cons_zero, List.set_cons_succ]
            refine wpAnyH_take (i := 9) (v := ?vz9) rfl (by kernel_rfl) (by kernel_rfl) (by kernel_rfl) (fun _ _ _ h => h) (Or.inl ⟨by rfl, ?yz9⟩) hHeld ?rz9
            case yz9 => (intro W hW; obtain ⟨hW0, hW1, hW2⟩ := hW; go_simp; first | done | with_reducible rfl)
            try simp only [List.getElem_toArray, List.getElem_cons_succ, List.getElem_cons_zero, Act.put, List.setIfInBounds_toArray, List.set_cons_zero, List.set_cons_succ]
            refine wpAnyH_take (i := 10) (v := ?vz10) rfl (by kernel_rfl) (by kernel_rfl) (by kernel_rfl) (fun _ _ _ h => h) (Or.inl ⟨by rfl, ?yz10⟩) hHeld ?rz10
            case yz10 => (intro W hW; obtain ⟨hW0, hW1, hW2⟩ := hW; go_simp; first | done | with_reducible rfl)
            try simp only [List.getElem_toArray, List.getElem_cons_succ, List.getElem_cons_zero, Act.put, List.setIfInBounds_toArray, List.set_cons_zero, List.set_cons_succ]
            refine wpAnyH_take (i := 11) (v := ?vz11) rfl (by kernel_rfl) (by kernel_rfl) (by kernel_rfl) (fun _ _ _ h => h) (Or.inl ⟨by rfl, ?yz11⟩) hHeld ?rz11
            case yz11 => (intro W hW; obtain ⟨hW0, hW1, hW2⟩ := hW; go_simp; first | done | with_reducible rfl)
            try simp only [List.getElem_toArray, List.getElem_cons_succ, List.getElem_cons_zero, Act.put, List.setIfInBounds_toArray, List.set_cons_zero, List.set_cons_succ]
            refine wpAnyH_take (i := 12) (v := ?vz12) rfl (by kernel_rfl) (by kernel_rfl) (by kernel_rfl) (fun _ _ _ h => h) (Or.inl ⟨by rfl, ?yz12⟩) hHeld ?rz12
            case yz12 => (intro W hW; obtain ⟨hW0, hW1, hW2⟩ := hW; go_simp; first | done | with_reducible rfl)
            try simp only [List.getElem_toArray, List.getElem_cons_succ, List.getElem_cons_zero, Act.put, List.setIfInBounds_toArray, List.set_cons_zero, List.set_cons_succ]
            refine wpAnyH_take (i := 13) (v := ?vz13) rfl (by kernel_rfl) (by kernel_rfl) (by kernel_rfl) (fun _ _ _ h => h) (Or.inl ⟨by rfl, ?yz13⟩) hHeld ?rz13
            case yz13 => (intro W hW; obtain ⟨hW0, hW1, hW2⟩ := hW; go_simp; first | done | with_reducible rfl)
            try simp only [List.getElem_toArray, List.getElem_cons_succ, List.getElem_cons_zero, Act.put, List.setIfInBounds_toArray, List.set_cons_zero, List.set_cons_succ]
            refine wpAnyH_take (i := 14) (v := ?vz14) rfl (by kernel_rfl) (by kernel_rfl) (by kernel_rfl) (fun _ _ _ h => h) (Or.inl ⟨by rfl, ?yz14⟩) hHeld ?rz14
            case yz14 => (intro W hW; obtain ⟨hW0, hW1, hW2⟩ := hW; go_simp; first | done | with_reducible rfl)
            try simp only [List.getElem_toArray, List.getElem_cons_succ, List.getElem_cons_zero, Act.put, List.setIfInBounds_toArray, List.set_cons_zero, List.set_cons_succ]
            refine wpAnyH_take (i := 15) (v := ?vz15) rfl (by kernel_rfl) (by kernel_rfl) (by kernel_rfl) (fun _ _ _ h => h) (Or.inl ⟨by rfl, ?yz15⟩) hHeld ?rz15
            case yz15 => (intro W hW; obtain ⟨hW0, hW1, hW2⟩ := hW; go_simp; first | done | with_reducible rfl)
            try simp only [List.getElem_toArray, List.getElem_cons_succ, List.getElem_cons_zero, Act.put, List.setIfInBounds_toArray, List.set_cons_zero, List.set_cons_succ]
            refine wpAnyH_take (i := 16) (v := ?vz16) rfl (by kernel_rfl) (by kernel_rfl) (by kernel_rfl) (fun _ _ _ h => h) (Or.inl ⟨by rfl, ?yz16⟩) hHeld ?rz16
            case yz16 => (intro W hW; obtain ⟨hW0, hW1, hW2⟩ := hW; go_simp; first | done | with_reducible rfl)
            try simp only [List.getElem_toArray, List.getElem_cons_succ, List.getElem_cons_zero, Act.put, List.setIfInBounds_toArray, List.set_cons_zero, List.set_cons_succ]
            refine wpAnyH_take (i := 17) (v := ?vz17) rfl (by kernel_rfl) (by kernel_rfl) (by kernel_rfl) (fun _ _ _ h => h) (Or.inl ⟨by rfl, ?yz17⟩) hHeld ?rz17
            case yz17 => (intro W hW; obtain ⟨hW0, hW1, hW2⟩ := hW; go_simp; first | done | with_reducible rfl)
            try simp only [List.getElem_toArray, List.getElem_cons_succ, List.getElem_cons_zero, Act.put, List.setIfInBounds_toArray, List.set_cons_zero, List.set_cons_succ]
            refine wpAnyH_take (i := 18) (v := ?vz18) rfl (by kernel_rfl) (by kernel_rfl) (by kernel_rfl) (fun _ _ _ h => h) (Or.inl ⟨by rfl, ?yz18⟩) hHeld ?rz18
            case yz18 => (intro W hW; obtain ⟨hW0, hW1, hW2⟩ := hW; go_simp; first | done | with_reducible rfl)
            try simp only [List.getElem_toArray, List.getElem_cons_succ, List.getElem_cons_zero, Act.put, List.setIfInBounds_toArray, List.set_cons_zero, List.set_cons_succ]
            refine wpAnyH_take (i := 19) (v := ?vz19) rfl (by kernel_rfl) (by kernel_rfl) (by kernel_rfl) (fun _ _ _ h => h) (Or.inl ⟨by rfl, ?yz19⟩) hHeld ?rz19
            case yz19 => (intro W hW; obtain ⟨hW0, hW1, hW2⟩ := hW; go_simp; first | done | with_reducible rfl)
            try simp only [List.getElem_toArray, List.getElem_cons_succ, List.getElem_cons_zero, Act.put, List.setIfInBounds_toArray, List.set_cons_zero, List.set_cons_succ]
            refine wpAnyH_take (i := 20) (v := ?vz20) rfl (by kernel_rfl) (by kernel_rfl) (by kernel_rfl) (fun _ _ _ h => h) (Or.inl ⟨by rfl, ?yz20⟩) hHeld ?rz20
            case yz20 => (intro W hW; obtain ⟨hW0, hW1, hW2⟩ := hW; go_simp; first | done | with_reducible rfl)
            try simp only [List.getElem_toArray, List.getElem_cons_succ, List.getElem_cons_zero, Act.put, List.setIfInBounds_toArray, List.set_cons_zero, List.set_cons_succ]
            refine wpAnyH_take (i := 21) (v := ?vz21) rfl (by kernel_rfl) (by kernel_rfl) (by kernel_rfl) (fun _ _ _ h => h) (Or.inl ⟨by rfl, ?yz21⟩) hHeld ?rz21
            case yz21 => (intro W hW; obtain ⟨hW0, hW1, hW2⟩ := hW; go_simp; first | done | with_reducible rfl)
            try simp only [List.getElem_toArray, List.getElem_cons_succ, List.getElem_cons_zero, Act.put, List.setIfInBounds_toArray, List.set_cons_zero, List.set_cons_succ]
            refine wpAnyH_take (i := 22) (v := ?vz22) rfl (by kernel_rfl) (by kernel_rfl) (by kernel_rfl) (fun _ _ _ h => h) (Or.inl ⟨by rfl, ?yz22⟩) hHeld ?rz22
            case yz22 => (intro W hW; obtain ⟨hW0, hW1, hW2⟩ := hW; go_simp; first | done | with_reducible rfl)
            try simp only [List.getElem_toArray, List.getElem_cons_succ, List.getElem_cons_zero, Act.put, List.setIfInBounds_toArray, List.set_cons_zero, List.set_cons_succ]
            refine wpAnyH_take (i := 23) (v := ?vz23) rfl (by kernel_rfl) (by kernel_rfl) (by kernel_rfl) (fun _ _ _ h => h) (Or.inl ⟨by rfl, ?yz23⟩) hHeld ?rz23
            case yz23 => (intro W hW; obtain ⟨hW0, hW1, hW2⟩ := hW; go_simp; first | done | with_reducible rfl)
            try simp only [List.getElem_toArray, List.getElem_cons_succ, List.getElem_cons_zero, Act.put, List.setIfInBounds_toArray, List.set_cons_zero, List.set_cons_succ]
            refine wpAnyH_take (i := 24) (v := ?vz24) rfl (by kernel_rfl) (by kernel_rfl) (by kernel_rfl) (fun _ _ _ h => h) (Or.inl ⟨by rfl, ?yz24⟩) hHeld ?rz24
            case yz24 => (intro W hW; obtain ⟨hW0, hW1, hW2⟩ := hW; go_simp; first | done | with_reducible rfl)
            try simp only [List.getElem_toArray, List.getElem_cons_succ, List.getElem_cons_zero, Act.put, List.setIfInBounds_toArray, List.set_cons_zero, List.set_cons_succ]
            refine wpAnyH_take (i := 25) (v := ?vz25) rfl (by kernel_rfl) (by kernel_rfl) (by kernel_rfl) (fun _ _ _ h => h) (Or.inl ⟨by rfl, ?yz25⟩) hHeld ?rz25
            case yz25 => (intro W hW; obtain ⟨hW0, hW1, hW2⟩ := hW; go_simp; first | done | with_reducible rfl)
            try simp only [List.getElem_toArray, List.getElem_cons_succ, List.getElem_cons_zero, Act.put, List.setIfInBounds_toArray, List.set_cons_zero, List.set_cons_succ]
            refine wpAnyH_take (i := 26) (v := ?vz26) rfl (by kernel_rfl) (by kernel_rfl) (by kernel_rfl) (fun _ _ _ h => h) (Or.inl ⟨by rfl, ?yz26⟩) hHeld ?rz26
            case yz26 => (intro W hW; obtain ⟨hW0, hW1, hW2⟩ := hW; go_simp; first | done | with_reducible rfl)
            try simp only [List.getElem_toArray, List.getElem_cons_succ, List.getElem_cons_zero, Act.put, List.setIfInBounds_toArray, List.set_cons_zero, List.set_cons_succ]
            refine wpAnyH_take (i := 27) (v := ?vz27) rfl (by kernel_rfl) (by kernel_rfl) (by kernel_rfl) (fun _ _ _ h => h) (Or.inl ⟨by rfl, ?yz27⟩) hHeld ?rz27
            case yz27 => (intro W hW; obtain ⟨hW0, hW1, hW2⟩ := hW; go_simp; first | done | with_reducible rfl)
            try simp only [List.getElem_toArray, List.getElem_cons_succ, List.getElem_cons_zero, Act.put, List.setIfInBounds_toArray, List.set_cons_zero, List.set_cons_succ]
            refine wpAnyH_done (by kernel_rfl) ?_ _
            go_wp2
            go_roundw
            case rel =>
              first
              | exact ⟨l + 1, by go_num, by omega, HBq.out.drew⟩
              | exact ⟨L1, rfl, by have := HL1.out; omega, HBq.out.drew⟩
            case measure => (have := HL1.out; simp [intOf]; omega)
          · obtain rfl : l = q := by omega
            have c1 := hq1.cell (HAT.out (fun e => e.sc) l (by rw [HDD.out]; omega))
            rw [HCF.out.2] at c1
            have HBf := Lib.hid (HBF.out.trans (HBq.out.mono HBF.out.size))
            have hlD : (l : Int) < (D : Int) := by have := HDD.out; omega
            have hl0 : (0 : Int) ≤ (l : Int) := by omega
            clear hq1 hq2 hb
            go_wp2
            go_ret
            exact ⟨by simp, HBf.out⟩
end Go.Proofs.YtbmdiiifhccebaaDoor
