/- The law TreeMany. -/
import Derived.IntWalk
import Derived.Deep.RegionLaw
import Derived.BigRegion
import Derived.Test.YtjllmladhjbnaaaDoorKn11
import Derived.Test.YtjllmladhjbnaaaDoorTreQ
import Derived.Test.YtjllmladhjbnaaaDoorSameE
import Derived.Test.YtjllmladhjbnaaaDoorL8
import Derived.Test.YtjllmladhjbnaaaDoorRegion
namespace Go.Proofs.YtjllmladhjbnaaaDoor
open Go.RowKit Go.Shelf
attribute [local go_sem] Oper.semAt_some
def cM (z : List Int) (L : Nat) : List Int := (z.take L).map fun x => 1 + x % 4
theorem cM_c (z : List Int) (L : Nat) : ∀ x ∈ cM z L, 1 ≤ x ∧ x ≤ 16 := by
  intro x hx
  obtain ⟨y, -, rfl⟩ := List.mem_map.1 hx
  omega
theorem prodTo_4 {cs : List Int} (hc : ∀ x ∈ cs, 1 ≤ x ∧ x ≤ 4) : ∀ i, i ≤ cs.length → 1 ≤ prodTo cs i ∧ prodTo cs i ≤ 4 ^ i
  | 0, _ => ⟨Int.le_refl 1, Int.le_refl 1⟩
  | i + 1, h => by
    obtain ⟨a, b⟩ := prodTo_4 hc i (by omega)
    have hcd : 1 ≤ cs.getD i 0 ∧ cs.getD i 0 ≤ 4 := by
      rw [List.getD_eq_getElem?_getD, List.getElem?_eq_getElem (by omega)]
      exact hc _ (List.getElem_mem _)
    obtain ⟨c, d⟩ := hcd
    have p := Int.mul_le_mul a c (by omega) (by omega)
    have q := Int.mul_le_mul b d (by omega) (by have : (0 : Int) ≤ 4 ^ i := Int.pow_nonneg (by omega); exact this)
    unfold prodTo
    rw [Int.pow_succ]
    exact ⟨by simpa using p, q⟩
set_option maxRecDepth 100000 in
set_option maxHeartbeats 8000000 in
theorem treeMany_walk (a0 : Option Addr) (len0 cap0 : Nat) (z0 : List Int) (a1 : Int) (w : World) (w0 : IsRow .i64 w a0 len0 cap0 z0) (h1 : inK .i64 a1) (hT : Tab w) (hw1 : 1 < w.heap.size) :
    Calls Tryd.prog 8 #[.slice a0 len0 cap0, .int .i64 a1] w fun e w' => e = .returned (.bool true) ∧ Below w.heap.size w w' := by
  obtain ⟨n1, lc1, cm1⟩ := w0.nums
  obtain ⟨z, hz⟩ : ∃ z, z = z0.take len0 := ⟨_, rfl⟩
  rw [← hz] at n1
  have HKn := Lib.hid (known11_any w hT hw1)
  have HT := Lib.hid hT
  obtain ⟨L, hL⟩ : ∃ L, L = min len0 4 := ⟨_, rfl⟩
  have L4 : L ≤ 4 := by omega
  have Ll : L ≤ len0 := by omega
  have hcl : (cM z L).length = L := by
    unfold cM
    rw [List.length_map, List.length_take, n1.len]
    omega
  have HCL := Lib.hid hcl
  have HL := Lib.hid hL
  have N1 := Lib.hid n1
  clear w0 n1 hT hL hcl hz
  go_enter Tryd.func8, Tryd.ntmps8
  go_wp2_with fail
  refine HKn.out.mono ?_
  rintro e w1 ⟨rfl, hb1⟩
  have HB1 := Lib.hid hb1
  have N11 := Lib.hid (N1.out.keep (Keeps.of_below hb1))
  have hbx := Box2.new w1 25 (.slice none 0 0) (.int .i64 0)
  have hbb := below_box w1 (.cells #[.slice none 0 0, .int .i64 0] 25)
  have hzz : (w1.alloc (.cells #[.slice none 0 0, .int .i64 0] 25)).heap.size = w1.heap.size + 1 := by simp
  clear hb1 HKn
  go_wp2_with fail
  generalize w1.alloc (.cells #[.slice none 0 0, .int .i64 0] 25) = w2 at hbx hbb hzz ⊢
  obtain ⟨S, hS⟩ : ∃ S, S = w1.heap.size := ⟨_, rfl⟩
  rw [← hS] at hbx hbb hzz ⊢
  have HS := Lib.hid hS
  have HBB := Lib.hid hbb
  have HBX := Lib.hid hbx
  clear hS hbb hbx
  go_loopw [6, 7] (fun n i wr => ∃ k : Nat, k ≤ L ∧ i = .int .i64 k ∧ n = .int .i64 (prodTo (cM z L) k) ∧ ∃ cv, Box2 25 wr S cv (.int .i64 0) ∧ OI (S + 1) wr cv ((cM z L).take k) ∧ Below S w1 wr ∧ S < wr.heap.size) (fun _ i _ => L - (intOf i).toNat)
  case atStart => exact ⟨0, Nat.zero_le _, rfl, rfl, _, HBX.out, OI.nil _ _, HBB.out, by omega⟩
  case round =>
    obtain ⟨k, hk, rfl, rfl, cv, b1, o1, hb, hz⟩ := hrel
    rename World => wr
    have c0 := b1.cell0
    have c1 := b1.cell1
    have BX := Lib.hid b1
    have HB := Lib.hid hb
    have HO := Lib.hid o1
    have hlk : ((cM z L).take k).length = k := by rw [List.length_take, HCL.out]; omega
    have HLK := Lib.hid hlk
    have hpb := prodTo_4 (cs := cM z L) (fun x hx => by obtain ⟨y, -, rfl⟩ := List.mem_map.1 hx; omega) k (by rw [HCL.out]; omega)
    have hp4 : prodTo (cM z L) k ≤ 256 := by
      refine Int.le_trans hpb.2 ?_
      rcases (by omega : k = 0 ∨ k = 1 ∨ k = 2 ∨ k = 3 ∨ k = 4) with rfl | rfl | rfl | rfl | rfl <;> decide
    have hp1 := hpb.1
    obtain ⟨pr, hpr⟩ : ∃ pr, pr = prodTo (cM z L) k := ⟨_, rfl⟩
    rw [← hpr] at hp1 hp4 ⊢
    have HPR := Lib.hid hpr
    clear b1 hb HBX HBB hlk hpb hpr
    by_cases hlt : k < L
    · obtain ⟨ad, x, rfl, hx, hxi, hcx⟩ := (N11.out.keep (Keeps.of_below (show Below w1.heap.size w1 wr by have h := HB.out; rw [HS.out] at h; exact h))).at_ (k := k) (by omega)
      have hcmk : (cM z L)[k]? = some (1 + x % 4) := by
        unfold cM
        rw [List.getElem?_map, List.getElem?_take, if_pos hlt, hx]; rfl
      have htk : (cM z L).take (k + 1) = (cM z L).take k ++ [1 + x % 4] := by rw [List.take_add_one, hcmk]; rfl
      have hst : prodTo (cM z L) (k + 1) = pr * (1 + x % 4) := by
        show prodTo (cM z L) k * (cM z L).getD k 0 = _
        rw [List.getD_eq_getElem?_getD, hcmk, ← HPR.out]; rfl
      have m0 : 0 ≤ x % 4 := by omega
      have m3 : x % 4 ≤ 3 := by omega
      have HWx := Lib.hid (fun W => lwithin11 x 4 W hxi (by omega) (by omega))
      obtain ⟨y, hy⟩ : ∃ y, y = x % 4 := ⟨_, rfl⟩
      rw [← hy] at htk hst m0 m3 HWx
      obtain ⟨v', w', hrun, ho', hgr⟩ := append_int wr.drew (S + 1) cv ((cM z L).take k) (1 + y) wr.heap.size rfl o1.1 (by rw [HLK.out]; omega) (by exact hz)
      have hoi : OI (S + 1) w' v' ((cM z L).take (k + 1)) := by rw [htk]; exact ⟨ho', fun y hy => by rcases List.mem_append.1 hy with g | g; exact o1.2 y g; (simp only [List.mem_singleton] at g; subst g; constructor <;> omega)⟩
      obtain ⟨A', c', hv', -, -, -, -⟩ := hoi.form
      have hl1 : ((cM z L).take (k + 1)).length = k + 1 := by rw [List.length_take, HCL.out]; omega
      rw [hl1] at hv'
      subst hv'
      have hg1 : Box2 25 (wr.drew.alloc (.cells #[.int .i64 (1 + y)] 3)) S cv (.int .i64 0) := BX.out.alloc _
      have hgo : (wr.drew.alloc (.cells #[.int .i64 (1 + y)] 3)).ownsRow (S + 1) 3 1 cv ((cM z L).take k).length (ints ((cM z L).take k)) := o1.1.alloc _
      have b1' := hg1.grown hgr hgo (by decide)
      have hb' : Below S w1 (w'.setCell ⟨S, 0, none⟩ (.slice A' (k + 1) c')) := (((HB.out.drew).alloc (by exact Nat.le_of_lt hz) _).grown hgr (by simp; omega) fun j hj => by have := (hgo.lt j hj).1; omega).setCell (p := ⟨S, 0, none⟩) (Nat.le_refl _) _
      have hend : Box2 25 (w'.setCell ⟨S, 0, none⟩ (.slice A' (k + 1) c')) S (.slice A' (k + 1) c') (.int .i64 0) ∧ OI (S + 1) (w'.setCell ⟨S, 0, none⟩ (.slice A' (k + 1) c')) (.slice A' (k + 1) c') ((cM z L).take (k + 1)) ∧ Below S w1 (w'.setCell ⟨S, 0, none⟩ (.slice A' (k + 1) c')) ∧ S < (w'.setCell ⟨S, 0, none⟩ (.slice A' (k + 1) c')).heap.size := by
        refine ⟨b1'.set0 _, ⟨own_box hoi.1 b1' (by decide) _ _, hoi.2⟩, hb', ?_⟩
        have := hgr.size; simp [World.setCell]; simp at this; omega
      obtain ⟨P9, c9, e9, -, -, hn9, -⟩ := hend.2.1.form
      rw [hl1] at hn9 e9
      injection e9 with e91 e92 e93
      obtain ⟨ad9, x9, e94, hx9, -, hc9⟩ := hn9.at_ (k := k) (by omega)
      rw [htk, List.getElem?_append_right (by rw [HLK.out]; omega), HLK.out, Nat.sub_self] at hx9
      simp at hx9
      subst hx9
      rw [e94] at e91
      subst e91
      have E := Lib.hid hend
      have HC9 := Lib.hid hc9
      have c0' := b1'.cell0
      have f0' := b1'.frozen 0
      have Hrun := Lib.hid hrun
      have HST := Lib.hid hst
      have k0 : (0 : Int) ≤ (k : Int) := by omega
      have k1 : (k : Int) < (len0 : Int) := by omega
      have k4 : (k : Int) < 4 := by omega
      have hkw : IntKind.i64.wrap (1 + y) = 1 + y := IntWalk.i64_in _ (by omega)
      have q1 : 0 ≤ pr * (1 + y) := Int.mul_nonneg (by omega) (by omega)
      have q2 : pr * (1 + y) ≤ 256 * 4 := Int.mul_le_mul hp4 (by omega) (by omega) (by omega)
      clear hrun ho' hgr hoi hg1 hgo b1' hb' hend o1 hx hcmk htk hst hy hl1 hn9 hc9 e92 e93 e94
      go_wp2_with fail
      go_region_law (first | (go_simp; go_at_call 11; refine (HWx.out _).mono ?_; rintro e w2 ⟨rfl, rfl⟩) | (refine step_append_eq (by rfl) (.tmp 23) (.tmp 30) 22 (by rfl) cv (.slice (some ⟨wr.heap.size, 0, none⟩) 1 1) (.slice (some ad9) (k + 1) c') w' (by rfl) (by rfl) Hrun.out ?_) | fail)
      all_goals
        have c9 := HC9.out
        have d0 := E.out.1.cell0
        have Hrun := ()
        clear c0' f0'
        go_wp2
        go_roundw
        case rel => exact ⟨k + 1, by omega, by go_num, by rw [HST.out], _, E.out⟩
        case measure => simp [intOf]; omega
    · obtain rfl : k = L := by omega
      have htk : (cM z k).take k = cM z k := List.take_of_length_le (by rw [HCL.out]; omega)
      rw [htk] at o1
      obtain ⟨A, c, hv, -, -, hn, -⟩ := o1.form
      rw [HCL.out] at hv hn
      subst hv
      have hbw : Below w.heap.size w wr := HB1.out.trans (HB.out.mono (by rw [HS.out]; exact HB1.out.size))
      have HBW := Lib.hid hbw
      have HNN := Lib.hid hn
      have HBS := Lib.hid (HB.out)
      have hst : (k = 4 ∧ k < len0) ∨ k = len0 := by
        have := HL.out
        omega
      have x0 := c0
      have x1 := c1
      clear c0 c1 o1 hn hbw htk
      by_cases hk0 : k = 0
      · have hl0 : len0 = 0 := by have := HL.out; omega
        subst hk0
        subst hl0
        go_wp2
        go_ret
        exact ⟨rfl, HBW.out⟩
      · have q1 : 1 ≤ k := by omega
        have HCHK : checkB (cM z k) ((0 : Nat) : Int) = true := checkB_yes (by rw [HCL.out]; omega) (by rw [HCL.out]; omega) (by omega) (by omega) (cM_c z k)
        have r0 : 0 ≤ a1 % (301 - pr) := Int.emod_nonneg _ (by omega)
        have r1 : a1 % (301 - pr) < 301 - pr := Int.emod_lt_of_pos _ (by omega)
        have HWI := Lib.hid (lwithin11 a1 (301 - pr) wr h1 (by omega) (by omega))
        obtain ⟨r, hr⟩ : ∃ r, r = a1 % (301 - pr) := ⟨_, rfl⟩
        rw [← hr] at r0 r1 HWI
        obtain ⟨m, hm⟩ : ∃ m, m = pr + r := ⟨_, rfl⟩
        have hmw : IntKind.i64.wrap (pr + r) = m := by rw [hm]; exact IntWalk.i64_in _ (by omega)
        have hsub : IntKind.i64.wrap (301 - pr) = 301 - pr := IntWalk.i64_in _ (by omega)
        have m0 : pr ≤ m := by omega
        have m3 : m ≤ 300 := by omega
        have hfq := fun (n : Int) (W : World) (hb : Below wr.heap.size wr W) (n0 : 0 ≤ n) (n3 : n ≤ 300) => (⟨HNN.out.keep (Keeps.of_below hb), q1, L4, by omega, cM_c z k, n0, n3, HT.out.below (HBW.out.trans (hb.mono HBW.out.size)) hw1, by have := HBW.out.size; have := hb.size; omega⟩ : FQ W A k 0 (cM z k) n)
        have HFQ := Lib.hid hfq
        have hpk : prodTo (cM z k) (cM z k).length = pr := by rw [HCL.out, HPR.out]
        have hsame := tree_many (cs := cM z k) (n := pr) (m := m) (by rw [HCL.out]; omega) (by rw [HCL.out]; omega) (cM_c z k) (by rw [hpk]; omega) (by rw [hpk]; omega)
        have hrp := tree_right pr (cs := cM z k) (by rw [HCL.out]; omega) (by rw [HCL.out]; omega)
        rw [HCL.out] at hrp
        have HPL := Lib.hid (tplan_any A k c 0 (cM z k) pr wr.drew (hfq pr _ (Below.refl _ wr).drew (by omega) (by omega)) HCHK)
        have HPM := Lib.hid (fun (W : World) (hb : Below wr.heap.size wr W) => tplan_any A k c 0 (cM z k) m W (HFQ.out m W hb (by omega) (by omega)) HCHK)
        rw [← hsame] at HPM
        obtain ⟨es, hes⟩ : ∃ es, es = treeM (cM z k) pr := ⟨_, rfl⟩
        rw [← hes] at HPL HPM hrp
        have HIN := Lib.hid (right_in q1 L4 hrp)
        have hlen : es.length ≤ 1000 := by
          have : es.length = 2 ^ k := by rw [← setsL_len k q1 L4, ← hrp.sets, List.length_map]
          rw [this]; have := (pow_16 k L4).1; omega
        obtain ⟨N, hN⟩ : ∃ N, N = es.length := ⟨_, rfl⟩
        rw [← hN] at hlen
        have HN := Lib.hid hN
        have k0 : ((k : Int) == 0) = false := by simp; omega
        have hk00 : ¬ (k : Int) = 0 := by omega
        clear hr hm hfq hpk hsame hrp hes hN hk0
        rcases hst with ⟨h4, h5⟩ | h4
        case inl =>
          have i1 : (k : Int) < (len0 : Int) := by omega
          have i2 : ¬ (k : Int) < 4 := by omega
          have i3 : decide (k < 4) = false := by simp; omega
          have i4 : decide ((k : Int) < 4) = false := by simp; omega
          clear h4 h5
          go_wp2_with fail
          refine HWI.out.mono ?_
          rintro e w' ⟨rfl, rfl⟩
          go_wp2_with fail
          refine wp_region_held_drew (S := fun W => W.cell? ⟨S, 0, none⟩ = some (.slice A k c) ∧ W.cell? ⟨S, 1, none⟩ = some (.int .i64 0)) (by kernel_rfl) ⟨x0, x1⟩ (fun hHeld => ?_)
          refine wpAnyH_take (i := 0) (v := ?va0) rfl (by kernel_rfl) (by kernel_rfl) (by kernel_rfl) (fun _ _ _ h => h) (Or.inl ⟨by rfl, ?ya0⟩) hHeld ?ra0
          case ya0 => (intro W hW; obtain ⟨hW0, hW1⟩ := hW; go_simp; first | done | with_reducible rfl)
          try simp only [List.getElem_toArray, List.getElem_cons_zero, Act.put, List.setIfInBounds_toArray, List.set_cons_zero, List.set_cons_succ]
          refine wpAnyH_take (i := 1) (v := ?va1) rfl (by kernel_rfl) (by kernel_rfl) (by kernel_rfl) (fun _ _ _ h => h) (Or.inl ⟨by rfl, ?ya1⟩) hHeld ?ra1
          case ya1 => (intro W hW; obtain ⟨hW0, hW1⟩ := hW; go_simp; first | done | with_reducible rfl)
          try simp only [List.getElem_toArray, List.getElem_cons_succ, List.getElem_cons_zero, Act.put, List.setIfInBounds_toArray, List.set_cons_zero, List.set_cons_succ]
          refine wpAnyH_take (i := 3) (v := ?va3) rfl (by kernel_rfl) (by kernel_rfl) (by kernel_rfl) (fun _ _ _ h => h) (Or.inl ⟨by rfl, ?ya3⟩) hHeld ?ra3
          case ya3 => (intro W hW; obtain ⟨hW0, hW1⟩ := hW; go_simp; first | done | with_reducible rfl)
          try simp only [List.getElem_toArray, List.getElem_cons_succ, List.getElem_cons_zero, Act.put, List.setIfInBounds_toArray, List.set_cons_zero, List.set_cons_succ]
          refine wpAnyH_take (i := 4) (v := ?va4) rfl (by kernel_rfl) (by kernel_rfl) (by kernel_rfl) (fun _ _ _ h => h) (Or.inl ⟨by rfl, ?ya4⟩) hHeld ?ra4
          case ya4 => (intro W hW; obtain ⟨hW0, hW1⟩ := hW; go_simp; first | done | with_reducible rfl)
          try simp only [List.getElem_toArray, List.getElem_cons_succ, List.getElem_cons_zero, Act.put, List.setIfInBounds_toArray, List.set_cons_zero, List.set_cons_succ]
          refine wpAnyH_ready (rs := [2]) (by kernel_rfl) (by simp) ?_
          refine AllReadyH.cons rfl (fun K hK => ?_) (AllReadyH.nil)
          go_simp
          refine HPL.out.mono ?_
          rintro e w4 ⟨v1, rfl, ho1, hb4⟩
          have k4 := Keeps.of_below hb4
          have HB4 := Lib.hid ((Below.refl wr.heap.size wr).drew.trans (hb4.mono (Nat.le_refl _)))
          have HO1 := Lib.hid ho1
          clear hb4 ho1
          refine hK.out _ _ (⟨k4 _ _ x0, k4 _ _ x1⟩) (fun hHeld => ?_)
          clear hK K
          try simp only [List.getElem_toArray, List.getElem_cons_succ, List.getElem_cons_zero, Act.put, List.setIfInBounds_toArray, List.set_cons_zero, List.set_cons_succ]
          refine wpAnyH_ready (rs := [5]) (by kernel_rfl) (by simp) ?_
          refine AllReadyH.cons rfl (fun K hK => ?_) (AllReadyH.nil)
          go_simp
          refine (HPM.out w4 HB4.out).mono ?_
          rintro e w5 ⟨v2, rfl, ho2, hb5⟩
          have k5 := Keeps.of_below hb5
          have HB5 := Lib.hid (HB4.out.trans (hb5.mono HB4.out.size))
          obtain ⟨P1, c1, rfl, hE1, -⟩ := (HO1.out.below hb5).form2 HIN.out
          obtain ⟨P2, c2, rfl, hE2, -⟩ := ho2.form2 HIN.out
          rw [← HN.out] at hE1 hE2
          have HE1 := Lib.hid hE1
          have HE2 := Lib.hid hE2
          clear hb5 ho2 hE1 hE2
          refine hK.out _ _ (⟨k5 _ _ hHeld.1, k5 _ _ hHeld.2⟩) (fun hHeld => ?_)
          clear hK K
          try simp only [List.getElem_toArray, List.getElem_cons_succ, List.getElem_cons_zero, Act.put, List.setIfInBounds_toArray, List.set_cons_zero, List.set_cons_succ]
          refine wpAnyH_ready (rs := [6]) (by kernel_rfl) (by simp) ?_
          refine AllReadyH.cons rfl (fun K hK => ?_) (AllReadyH.nil)
          go_simp
          rw [← HN.out]
          refine (sameE_any P1 P2 N c1 c2 es w5 HE1.out HE2.out hlen).mono ?_
          rintro e w6 ⟨rfl, hb6⟩
          have k6 := Keeps.of_below hb6
          have HB6 := Lib.hid (HB5.out.trans (hb6.mono HB5.out.size))
          clear hb6
          refine hK.out _ _ (⟨k6 _ _ hHeld.1, k6 _ _ hHeld.2⟩) (fun hHeld => ?_)
          clear hK K
          try simp only [List.getElem_toArray, List.getElem_cons_succ, List.getElem_cons_zero, Act.put, List.setIfInBounds_toArray, List.set_cons_zero, List.set_cons_succ]
          refine wpAnyH_take (i := 7) (v := ?va7) rfl (by kernel_rfl) (by kernel_rfl) (by kernel_rfl) (fun _ _ _ h => h) (Or.inl ⟨by rfl, ?ya7⟩) hHeld ?ra7
          case ya7 => (intro W hW; obtain ⟨hW0, hW1⟩ := hW; go_simp; first | done | with_reducible rfl)
          try simp only [List.getElem_toArray, List.getElem_cons_succ, List.getElem_cons_zero, Act.put, List.setIfInBounds_toArray, List.set_cons_zero, List.set_cons_succ]
          refine wpAnyH_done (by kernel_rfl) ?_ _
          go_wp2
          go_ret
          exact ⟨rfl, HBW.out.trans (HB6.out.mono HBW.out.size)⟩
        case inr =>
          have i1 : ¬ (k : Int) < (len0 : Int) := by omega
          have i2 : decide (k < len0) = false := by simp; omega
          have i3 : decide ((k : Int) < (len0 : Int)) = false := by simp; omega
          clear h4
          go_wp2_with fail
          refine HWI.out.mono ?_
          rintro e w' ⟨rfl, rfl⟩
          go_wp2_with fail
          refine wp_region_held_drew (S := fun W => W.cell? ⟨S, 0, none⟩ = some (.slice A k c) ∧ W.cell? ⟨S, 1, none⟩ = some (.int .i64 0)) (by kernel_rfl) ⟨x0, x1⟩ (fun hHeld => ?_)
          refine wpAnyH_take (i := 0) (v := ?vb0) rfl (by kernel_rfl) (by kernel_rfl) (by kernel_rfl) (fun _ _ _ h => h) (Or.inl ⟨by rfl, ?yb0⟩) hHeld ?rb0
          case yb0 => (intro W hW; obtain ⟨hW0, hW1⟩ := hW; go_simp; first | done | with_reducible rfl)
          try simp only [List.getElem_toArray, List.getElem_cons_zero, Act.put, List.setIfInBounds_toArray, List.set_cons_zero, List.set_cons_succ]
          refine wpAnyH_take (i := 1) (v := ?vb1) rfl (by kernel_rfl) (by kernel_rfl) (by kernel_rfl) (fun _ _ _ h => h) (Or.inl ⟨by rfl, ?yb1⟩) hHeld ?rb1
          case yb1 => (intro W hW; obtain ⟨hW0, hW1⟩ := hW; go_simp; first | done | with_reducible rfl)
          try simp only [List.getElem_toArray, List.getElem_cons_succ, List.getElem_cons_zero, Act.put, List.setIfInBounds_toArray, List.set_cons_zero, List.set_cons_succ]
          refine wpAnyH_take (i := 3) (v := ?vb3) rfl (by kernel_rfl) (by kernel_rfl) (by kernel_rfl) (fun _ _ _ h => h) (Or.inl ⟨by rfl, ?yb3⟩) hHeld ?rb3
          case yb3 => (intro W hW; obtain ⟨hW0, hW1⟩ := hW; go_simp; first | done | with_reducible rfl)
          try simp only [List.getElem_toArray, List.getElem_cons_succ, List.getElem_cons_zero, Act.put, List.setIfInBounds_toArray, List.set_cons_zero, List.set_cons_succ]
          refine wpAnyH_take (i := 4) (v := ?vb4) rfl (by kernel_rfl) (by kernel_rfl) (by kernel_rfl) (fun _ _ _ h => h) (Or.inl ⟨by rfl, ?yb4⟩) hHeld ?rb4
          case yb4 => (intro W hW; obtain ⟨hW0, hW1⟩ := hW; go_simp; first | done | with_reducible rfl)
          try simp only [List.getElem_toArray, List.getElem_cons_succ, List.getElem_cons_zero, Act.put, List.setIfInBounds_toArray, List.set_cons_zero, List.set_cons_succ]
          refine wpAnyH_ready (rs := [2]) (by kernel_rfl) (by simp) ?_
          refine AllReadyH.cons rfl (fun K hK => ?_) (AllReadyH.nil)
          go_simp
          refine HPL.out.mono ?_
          rintro e w4 ⟨v1, rfl, ho1, hb4⟩
          have k4 := Keeps.of_below hb4
          have HB4 := Lib.hid ((Below.refl wr.heap.size wr).drew.trans (hb4.mono (Nat.le_refl _)))
          have HO1 := Lib.hid ho1
          clear hb4 ho1
          refine hK.out _ _ (⟨k4 _ _ x0, k4 _ _ x1⟩) (fun hHeld => ?_)
          clear hK K
          try simp only [List.getElem_toArray, List.getElem_cons_succ, List.getElem_cons_zero, Act.put, List.setIfInBounds_toArray, List.set_cons_zero, List.set_cons_succ]
          refine wpAnyH_ready (rs := [5]) (by kernel_rfl) (by simp) ?_
          refine AllReadyH.cons rfl (fun K hK => ?_) (AllReadyH.nil)
          go_simp
          refine (HPM.out w4 HB4.out).mono ?_
          rintro e w5 ⟨v2, rfl, ho2, hb5⟩
          have k5 := Keeps.of_below hb5
          have HB5 := Lib.hid (HB4.out.trans (hb5.mono HB4.out.size))
          obtain ⟨P1, c1, rfl, hE1, -⟩ := (HO1.out.below hb5).form2 HIN.out
          obtain ⟨P2, c2, rfl, hE2, -⟩ := ho2.form2 HIN.out
          rw [← HN.out] at hE1 hE2
          have HE1 := Lib.hid hE1
          have HE2 := Lib.hid hE2
          clear hb5 ho2 hE1 hE2
          refine hK.out _ _ (⟨k5 _ _ hHeld.1, k5 _ _ hHeld.2⟩) (fun hHeld => ?_)
          clear hK K
          try simp only [List.getElem_toArray, List.getElem_cons_succ, List.getElem_cons_zero, Act.put, List.setIfInBounds_toArray, List.set_cons_zero, List.set_cons_succ]
          refine wpAnyH_ready (rs := [6]) (by kernel_rfl) (by simp) ?_
          refine AllReadyH.cons rfl (fun K hK => ?_) (AllReadyH.nil)
          go_simp
          rw [← HN.out]
          refine (sameE_any P1 P2 N c1 c2 es w5 HE1.out HE2.out hlen).mono ?_
          rintro e w6 ⟨rfl, hb6⟩
          have k6 := Keeps.of_below hb6
          have HB6 := Lib.hid (HB5.out.trans (hb6.mono HB5.out.size))
          clear hb6
          refine hK.out _ _ (⟨k6 _ _ hHeld.1, k6 _ _ hHeld.2⟩) (fun hHeld => ?_)
          clear hK K
          try simp only [List.getElem_toArray, List.getElem_cons_succ, List.getElem_cons_zero, Act.put, List.setIfInBounds_toArray, List.set_cons_zero, List.set_cons_succ]
          refine wpAnyH_take (i := 7) (v := ?vb7) rfl (by kernel_rfl) (by kernel_rfl) (by kernel_rfl) (fun _ _ _ h => h) (Or.inl ⟨by rfl, ?yb7⟩) hHeld ?rb7
          case yb7 => (intro W hW; obtain ⟨hW0, hW1⟩ := hW; go_simp; first | done | with_reducible rfl)
          try simp only [List.getElem_toArray, List.getElem_cons_succ, List.getElem_cons_zero, Act.put, List.setIfInBounds_toArray, List.set_cons_zero, List.set_cons_succ]
          refine wpAnyH_done (by kernel_rfl) ?_ _
          go_wp2
          go_ret
          exact ⟨rfl, HBW.out.trans (HB6.out.mono HBW.out.size)⟩
end Go.Proofs.YtjllmladhjbnaaaDoor
