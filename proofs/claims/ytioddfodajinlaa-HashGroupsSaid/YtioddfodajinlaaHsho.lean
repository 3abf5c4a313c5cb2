/- Package hash: Cells. -/
import Derived.IntWalk
import Derived.Test.YtioddfodajinlaaHsha
import Derived.Test.YtioddfodajinlaaHshn
namespace Go.Proofs.Ytioddfodajinlaa
open Go.RowKit
attribute [local go_sem] Oper.semAt_some
/-- Few numbers in each of a cell's slices. -/
def FewN (x : Cel) : Prop := x.key.length ≤ 1000000 ∧ x.sum.length ≤ 1000000 ∧ x.mn.length ≤ 1000000 ∧ x.mx.length ≤ 1000000
set_option maxRecDepth 100000 in
set_option maxHeartbeats 4000000 in
theorem hCells_any (B T g : Nat) (d me : Int) (vs : List (Option V5)) (ts : List (Option Cel)) (w : World) (hB : Tb B w T g d me vs ts) (hN2 : ts.length ≤ 10000) (hev : ∀ x ∈ cellsT ts, FewN x) :
    Calls Try.prog 21 #[.pointer (some ⟨T, 0, none⟩)] w fun e w' => ∃ v us, e = .returned v ∧ GRs w.heap.size w' v us (cellsT ts) ∧ Below w.heap.size w w' := by
  have HE := Lib.hid (hentries_any B T g d me vs ts w hB hN2)
  have hcl := cells_le ts
  obtain ⟨J, hJ⟩ : ∃ J, J = cellsT ts := ⟨_, rfl⟩
  rw [← hJ] at HE hev hcl ⊢
  have HEV := Lib.hid hev
  obtain ⟨N, hN⟩ : ∃ N, N = J.length := ⟨_, rfl⟩
  rw [← hN] at hcl
  have hN3 : N ≤ 10000 := by omega
  have HN := Lib.hid hN
  clear hB hev hJ hN hcl hN2
  go_enter Try.func21, Try.ntmps21
  go_wp2_with fail
  refine HE.out.mono ?_
  rintro e w2 ⟨lv, us, rfl, ho2, hL2, hb2⟩
  clear HE
  have hul : us.length = N := by rw [hL2.1, HN.out]
  obtain ⟨P, c, rfl, hc1, hc2, hfo⟩ := own_form ho2
  rw [hul] at hfo hc1 ⊢
  have HFO := Lib.hid hfo
  have HL2 := Lib.hid hL2
  have Hb2 := Lib.hid hb2
  have HUL := Lib.hid hul
  clear hfo hL2 hb2 ho2 hul
  go_wp2
  go_loopw [3, 11] (fun l i wr => ∃ (k : Nat) (us2 : List V5), i = .int .i64 k ∧ k ≤ N ∧ GRs w2.heap.size wr l us2 (J.take k) ∧ Below w2.heap.size w2 wr) (fun _ i _ => N - (intOf i).toNat)
  case atStart => exact ⟨0, [], rfl, Nat.zero_le _, GRs.nil _ _, Below.refl _ _⟩
  case round =>
    obtain ⟨k, us2, rfl, hk, hG, hb⟩ := hrel
    rename World => wr
    by_cases hkN : k < N
    · have k0 : (0 : Int) ≤ (k : Int) := by omega
      have k1 : (k : Int) < (N : Int) := by omega
      have k2 : decide ((k : Int) < (N : Int)) = true := decide_eq_true k1
      obtain ⟨ge, rfl, -, hce⟩ := HFO.out (by omega)
      obtain ⟨x, hx⟩ : ∃ x, J[k]? = some x := ⟨_, List.getElem?_eq_getElem (by rw [← HN.out]; exact hkN)⟩
      obtain ⟨u, hu⟩ : ∃ u, us[k]? = some u := ⟨_, List.getElem?_eq_getElem (by rw [HUL.out]; exact hkN)⟩
      obtain ⟨ka, kb, kc, kd, ke⟩ := u
      obtain ⟨e0, hco, hix⟩ := HL2.out.2 k _ x hu hx
      dsimp only at e0 hco
      subst e0
      obtain ⟨v0, v1, v2, v3, v4⟩ := flatV_at hu
      have kp := Keeps.of_below hb
      have q0 : wr.cell? ⟨ge, k * 5, none⟩ = some ka := kp _ _ (hce _ _ v0)
      have q1 : wr.cell? ⟨ge, k * 5 + 1, none⟩ = some (.int .i64 x.cnt) := kp _ _ (hce _ _ v1)
      have q2 : wr.cell? ⟨ge, k * 5 + 2, none⟩ = some kc := kp _ _ (hce _ _ v2)
      have q3 : wr.cell? ⟨ge, k * 5 + 3, none⟩ = some kd := kp _ _ (hce _ _ v3)
      have q4 : wr.cell? ⟨ge, k * 5 + 4, none⟩ = some ke := kp _ _ (hce _ _ v4)
      obtain ⟨n1, n2, n3, n4⟩ := HEV.out x (List.mem_of_getElem? hx)
      have hcr := hco.cr.keep kp
      have hCL := fun (W : World) (hW : Below wr.heap.size wr W) => hcloned_any ka kc kd ke x W (hcr.keep (Keeps.of_below hW)) n1 n2 n3 n4
      obtain ⟨P1, d1, f1, -⟩ := hco.key.form
      obtain ⟨P2, d2, f2, -⟩ := hco.sum.form
      obtain ⟨P3, d3, f3, -⟩ := hco.mn.form
      obtain ⟨P4, d4, f4, -⟩ := hco.mx.form
      generalize x.key.length = m1 at f1
      generalize x.sum.length = m2 at f2
      generalize x.mn.length = m3 at f3
      generalize x.mx.length = m4 at f4
      subst f1 f2 f3 f4
      obtain ⟨xc, exc⟩ : ∃ z, z = x.cnt := ⟨_, rfl⟩
      rw [← exc] at q1 hCL hix
      have htk : J.take (k + 1) = J.take k ++ [x] := by rw [List.take_add_one, hx]; rfl
      have hlen := hG.len
      have hlen2 : us2.length ≤ 10000 := by rw [hlen, List.length_take]; omega
      obtain ⟨w5, hw5⟩ : ∃ w5, w5 = wr.alloc (.cells #[.slice P1 m1 d1, .int .i64 xc, .slice P2 m2 d2, .slice P3 m3 d3, .slice P4 m4 d4] 67) := ⟨_, rfl⟩
      have o5 : Own 67 w5 wr.heap.size [.slice P1 m1 d1, .int .i64 xc, .slice P2 m2 d2, .slice P3 m3 d3, .slice P4 m4 d4] := by rw [hw5]; exact heap_alloc_new wr _
      have hb5 : Below wr.heap.size wr w5 := by rw [hw5]; exact (Below.refl _ _).alloc (Nat.le_refl _) _
      obtain ⟨r0, r1, r2, r3, r4⟩ := o5.bx
      have HCL := Lib.hid (hCL w5 hb5)
      have HG5 := Lib.hid (hG.below hb5)
      have Hb5 := Lib.hid (hb.trans (hb5.mono hb.size))
      have HW5 := Lib.hid hw5
      have HT := Lib.hid htk
      have HX := Lib.hid exc
      have HIX := Lib.hid hix
      clear hCL hG hb hx hu hco hix v0 v1 v2 v3 v4 kp n1 n2 n3 n4 hcr exc htk hlen hw5 o5 hb5 hce
      go_upto_region 5 with (fail)
      rw [← HW5.out]
      clear q0 q1 q2 q3 q4
      go_wp2_with fail
      clear r0 r1 r2 r3 r4
      refine HCL.out.mono ?_
      rintro e w6 ⟨sk, ss, sn, sm, rfl, hco6, -, hb6⟩
      have hG6 := HG5.out.below hb6
      have hB6 : w2.heap.size ≤ w6.heap.size := Nat.le_trans Hb5.out.size hb6.size
      obtain ⟨v', X3, hrun, hG3, hgr, -⟩ := append_one (u := ⟨sk, .int .i64 xc, ss, sn, sm⟩) hG6 (show OwnC w2.heap.size w6 ⟨sk, .int .i64 xc, ss, sn, sm⟩ x from ⟨by rw [HX.out], hco6.mono Hb5.out.size, by rw [← HX.out]; exact HIX.out⟩) (by omega) hB6
      dsimp only at hrun hgr
      have hb7 : Below w2.heap.size w6 X3 := (((Below.refl w6.heap.size w6).alloc (Nat.le_refl _) (.cells #[sk, .int .i64 xc, ss, sn, sm] 39)).mono hB6).grown hgr (by simp; omega) fun j e => (hG6.1.lt j e).1
      have Hb7 := Lib.hid ((Hb5.out.trans (hb6.mono Hb5.out.size)).trans hb7)
      obtain ⟨S1, t1, g1, -⟩ := hco6.key.form
      obtain ⟨S2, t2, g2, -⟩ := hco6.sum.form
      obtain ⟨S3, t3, g3, -⟩ := hco6.mn.form
      obtain ⟨S4, t4, g4, -⟩ := hco6.mx.form
      generalize x.key.length = l1 at g1
      generalize x.sum.length = l2 at g2
      generalize x.mn.length = l3 at g3
      generalize x.mx.length = l4 at g4
      subst g1 g2 g3 g4
      have Hrun := Lib.hid hrun
      have HG3 := Lib.hid hG3
      clear hrun hG3 hgr hG6 hB6 hb7 hb6 hco6 HCL
      go_wp2_with (at_builtin; have _t := Hrun; refine wpList_append_eq rfl (.tmp 15) (.tmp 18) 29 rfl _ _ _ _ rfl rfl Hrun.out ?_; clear _t Hrun)
      go_roundw
      case rel => exact ⟨k + 1, _, by go_num, by omega, by rw [HT.out]; exact HG3.out, Hb7.out⟩
      case measure => simp [intOf]; omega
    · obtain rfl : k = N := by omega
      rw [List.take_of_length_le (Nat.le_of_eq HN.out.symm)] at hG
      have k2 : decide ((k : Int) < (k : Int)) = false := by simp
      have HG := Lib.hid (hG.mono Hb2.out.size)
      have Hb := Lib.hid (Hb2.out.trans (hb.mono Hb2.out.size))
      clear hG hb
      go_wp2
      go_ret
      exact ⟨_, us2, rfl, HG.out, Hb.out⟩
end Go.Proofs.Ytioddfodajinlaa
/- Package hash: what each law of hash asks first: 'known'. -/
namespace Go.Proofs.Ytioddfodajinlaa
open Go.RowKit
attribute [local go_sem] Oper.semAt_some
/-- A new table. -/
theorem hNew_tb (n : Nat) (w : World) (h1 : 1 ≤ n) (h2 : n ≤ 10000) :
    Calls Try.prog 11 #[.int .i64 n] w fun e w' => ∃ T g, e = .returned (.pointer (some ⟨T, 0, none⟩)) ∧ Tb w.heap.size w' T g 0 0 (List.replicate n none) (List.replicate n none) ∧ Below w.heap.size w w' := by
  refine (hnew_any n w h1 h2).mono ?_
  rintro e w' ⟨rfl, a, b, c⟩
  refine ⟨_, _, rfl, ⟨?_, TabO.new a, by omega, Nat.le_refl _⟩, c⟩
  rw [cells_new, List.length_replicate]
  exact b
def k3 : Cel := ⟨[3], 1, [], [], []⟩
def k4 : Cel := ⟨[4], 1, [], [], []⟩
theorem put_k3 : putT (List.replicate 1 none) k3 = some [some k3] := by
  simp [putT, seekT, seekF, plcN, Nat.mod_one]
theorem put_k4 : putT [some k3] k4 = none := by
  simp [putT, seekT, seekF, plcN, Nat.mod_one, k3, k4]
theorem get_k3 : getT [some k3] [3] = some k3 := by
  simp [getT, seekT, seekF, plcN, Nat.mod_one, k3]
theorem grp_k3 : grpR [k3] = [k3] := rfl
theorem ok_3 : okK [3] = true := rfl
theorem ok_4 : okK [4] = true := rfl
theorem parts_k3 : (partsP 1 1 0 [k3]).length = 1 := by rw [parts_fit (by rw [grp_k3]; exact Nat.le_refl _)]; rfl
theorem none_at (n : Nat) {i : Nat} {y : Cel} (h : (List.replicate n (none : Option Cel))[i]? = some (some y)) : False := by
  rw [List.getElem?_replicate] at h
  split at h <;> cases h
/-- What a call of Put that finds a slot leaves, and one that finds none. -/
theorem hPut_yes {B T g l mm : Nat} {w : World} {ts ts' : List (Option Cel)} {x : Cel} {e : Ending} {w' : World} (h : PutC B w T g l mm ts x e w') (hp : putT ts x = some ts') (hB : B ≤ w.heap.size) (hg : B ≤ g) (hT : B ≤ T) : e = .returned (.bool true) ∧ ∃ vs', Tb B w' T g l mm vs' ts' ∧ Below B w w' ∧ Tch (fun b => b = g ∨ b = T) w w' := by
  rcases h.reads with ⟨t, h1, rfl, vs', h2, h3⟩ | ⟨h1, -⟩
  · rw [hp] at h1
    injection h1 with h1
    subst h1
    exact ⟨rfl, vs', h2, h3.below (fun q hq => by rcases hq with h | h <;> omega) hB, h3⟩
  · rw [hp] at h1; cases h1
theorem hPut_no {B T g l mm : Nat} {w : World} {ts : List (Option Cel)} {x : Cel} {e : Ending} {w' : World} (h : PutC B w T g l mm ts x e w') (hp : putT ts x = none) : e = .returned (.bool false) ∧ Below w.heap.size w w' := by
  rcases h.reads with ⟨t, h1, -⟩ | ⟨-, h2, h3⟩
  · rw [hp] at h1; cases h1
  · exact ⟨h2, h3⟩
set_option maxRecDepth 100000 in
set_option maxHeartbeats 4000000 in
theorem hknown_any (w : World) :
    Calls Try.prog 6 #[] w fun e w' => e = .returned (.bool true) ∧ Below w.heap.size w w' := by
  have HNW := Lib.hid (hNew_tb 1 w (by omega) (by omega))
  go_enter Try.func6, Try.ntmps6
  go_wp2_with fail
  refine HNW.out.mono ?_
  rintro e w1 ⟨T, g, rfl, hT1, hb1⟩
  have HLN := Lib.hid (hLen_any w.heap.size T g 0 0 _ _ w1 hT1)
  rw [cells_new] at HLN
  have HT1 := Lib.hid hT1
  have Hb1 := Lib.hid hb1
  clear hT1 hb1 HNW
  go_wp2_with fail
  refine HLN.out.mono ?_
  rintro e w' ⟨rfl, rfl⟩
  rename World => w1
  clear HLN
  go_upto_region 5 with (fail)
  have hTl := HT1.out.bx.lt
  have hgl := HT1.out.tab.blk.lt
  have hBw := Hb1.out.size
  obtain ⟨hBT, hBg⟩ : w.heap.size ≤ T ∧ w.heap.size ≤ g := ⟨HT1.out.hT, HT1.out.hg⟩
  obtain ⟨bk, ebk⟩ : ∃ bk, bk = w1.heap.size := ⟨_, rfl⟩
  obtain ⟨w2, hw2⟩ : ∃ w2, w2 = (w1.alloc (.cells #[.int .i64 3] 3)).alloc (.cells #[.slice (some ⟨w1.heap.size, 0, none⟩) 1 1, .int .i64 1, .slice none 0 0, .slice none 0 0, .slice none 0 0] 39) := ⟨_, rfl⟩
  have hb2 : Below w1.heap.size w1 w2 := by rw [hw2]; exact ((Below.refl _ w1).alloc (Nat.le_refl _) _).alloc (by simp) _
  have oc : Own 39 w2 (w1.heap.size + 1) [.slice (some ⟨w1.heap.size, 0, none⟩) 1 1, .int .i64 1, .slice none 0 0, .slice none 0 0, .slice none 0 0] := by
    rw [hw2]
    have := heap_alloc_new (w1.alloc (.cells #[.int .i64 3] 3)) (.cells #[.slice (some ⟨w1.heap.size, 0, none⟩) 1 1, .int .i64 1, .slice none 0 0, .slice none 0 0, .slice none 0 0] 39)
    rw [show (w1.alloc (.cells #[.int .i64 3] 3)).heap.size = w1.heap.size + 1 from by simp] at this
    exact this
  have rk : RI w2 (.slice (some ⟨w1.heap.size, 0, none⟩) 1 1) [3] := row_ri _ w1.heap.size [3] 3 (by simp [inK]) (by rw [hw2]; exact (Below.heap_alloc _ _ _ (by simp)).trans (heap_alloc_new w1 _)) (by decide)
  have ok2 : Own 3 w2 w1.heap.size [.int .i64 3] := by rw [hw2]; exact (Below.heap_alloc _ _ _ (by simp)).trans (heap_alloc_new w1 _)
  rw [← hw2, ← ebk]
  rw [← ebk] at oc rk ok2
  have OK2 := Lib.hid ok2
  have c2 : CR w2 (.slice (some ⟨bk, 0, none⟩) 1 1) (.slice none 0 0) (.slice none 0 0) (.slice none 0 0) k3 := ⟨rk, nil_ri _, nil_ri _, nil_ri _⟩
  have hP1 := hPut_any w.heap.size T g 0 0 0 _ _ _ _ _ _ k3 w2 (HT1.out.below hb2) (by simp) (by simp) (fun i y h => (none_at 1 h).elim) (.inl (by rw [cells_new]; rfl)) c2 (by simp [inK, k3]) (by decide) ok_3 ⟨rfl, rfl, rfl⟩ (by omega)
  have HP1 := Lib.hid (show Calls Try.prog _ #[.pointer (some ⟨T, 0, none⟩), .agg #[.slice (some ⟨bk, 0, none⟩) 1 1, .int .i64 1, .slice none 0 0, .slice none 0 0, .slice none 0 0]] w2 _ from hP1)
  have HB2 : Hid (w.heap.size ≤ w2.heap.size) := Lib.hid (Nat.le_trans hBw hb2.size)
  have Hb02 := Lib.hid (Hb1.out.trans (hb2.mono hBw))
  have Eb := Lib.hid ebk
  have HC2 := Lib.hid c2
  have hTb : bk + 1 ≠ T := by omega
  have hTk : bk ≠ T := by omega
  have hgk : bk ≠ g := by omega
  have hgb : bk + 1 ≠ g := by omega
  obtain ⟨f0, f1, f2, f3, f4⟩ := oc.bx
  have OC := Lib.hid oc
  clear ok2 hP1 rk c2 oc hb2 hw2 ebk hTl hgl
  go_wp2_with fail
  clear f0 f1 f2 f3 f4
  refine HP1.out.mono ?_
  intro e w3 hp
  obtain ⟨rfl, vs3, hT3, hb3, ht3⟩ := hPut_yes hp put_k3 HB2.out hBg hBT
  clear hp HP1
  have o3 : Own 39 w3 (bk + 1) _ := (ht3.block (bk + 1) OC.out.lt (fun e => by rcases e with e | e; exact hgb e; exact hTb e)).trans OC.out
  have ok3 : Own 3 w3 bk [.int .i64 3] := (ht3.block bk OK2.out.lt (fun e => by rcases e with e | e; exact hgk e; exact hTk e)).trans OK2.out
  obtain ⟨b4, eb4⟩ : ∃ b4, b4 = w3.heap.size := ⟨_, rfl⟩
  obtain ⟨w4, hw4⟩ : ∃ w4, w4 = w3.alloc (.cells #[.int .i64 4] 3) := ⟨_, rfl⟩
  have hb4 : Below w3.heap.size w3 w4 := by rw [hw4]; exact (Below.refl _ w3).alloc (Nat.le_refl _) _
  have rk4 : RI w4 (.slice (some ⟨w3.heap.size, 0, none⟩) 1 1) [4] := row_ri _ w3.heap.size [4] 3 (by simp [inK]) (by rw [hw4]; exact heap_alloc_new w3 _) (by decide)
  rw [← eb4] at rk4
  have c4 : CR w4 (.slice (some ⟨b4, 0, none⟩) 1 1) (.slice none 0 0) (.slice none 0 0) (.slice none 0 0) k4 := ⟨rk4, nil_ri _, nil_ri _, nil_ri _⟩
  have hT4 := hT3.below hb4
  have hP2 := hPut_any w.heap.size T g _ _ 0 _ _ _ _ _ _ k4 w4 hT4 (by simp) (by simp) (fun i y h => by
    match i, h with
    | 0, h => simp at h; subst h; exact ⟨by decide, rfl, rfl, rfl⟩
    | i + 1, h => simp at h) (.inr ⟨rfl, rfl⟩) c4 (by simp [inK, k4]) (by decide) ok_4 ⟨rfl, rfl, rfl⟩ (by omega)
  have HP2 := Lib.hid (show Calls Try.prog _ #[.pointer (some ⟨T, 0, none⟩), .agg #[.slice (some ⟨b4, 0, none⟩) 1 1, .int .i64 1, .slice none 0 0, .slice none 0 0, .slice none 0 0]] w4 _ from hP2)
  have hb04 : Below w.heap.size w w4 := (Hb02.out.trans (hb3.mono (Nat.le_refl _))).trans (hb4.mono (Nat.le_trans HB2.out hb3.size))
  have Hb04 := Lib.hid hb04
  have HT4 := Lib.hid hT4
  have O4 := Lib.hid (o3.below hb4 o3.lt)
  have OK4 := Lib.hid (ok3.below hb4 ok3.lt)
  have HW4 := Lib.hid hw4
  have Eb4 := Lib.hid eb4
  clear ok3 hP2 rk4 c4 hT3 hT4 hb3 ht3 hb4 hb04 o3 hw4 eb4
  go_wp2_with fail
  rw [← HW4.out, ← Eb4.out]
  refine HP2.out.mono ?_
  intro e w5 hp
  obtain ⟨rfl, hb5⟩ := hPut_no hp put_k4
  clear hp HP2
  have hT5 := HT4.out.below hb5
  have o5 := O4.out.below hb5 O4.out.lt
  have hb05 := Hb04.out.trans (hb5.mono Hb04.out.size)
  obtain ⟨b6, eb6⟩ : ∃ b6, b6 = w5.heap.size := ⟨_, rfl⟩
  obtain ⟨w6, hw6⟩ : ∃ w6, w6 = w5.alloc (.cells #[.int .i64 3] 3) := ⟨_, rfl⟩
  have hb6 : Below w5.heap.size w5 w6 := by rw [hw6]; exact (Below.refl _ w5).alloc (Nat.le_refl _) _
  have rk6 : RI w6 (.slice (some ⟨w5.heap.size, 0, none⟩) 1 1) [3] := row_ri _ w5.heap.size [3] 3 (by simp [inK]) (by rw [hw6]; exact heap_alloc_new w5 _) (by decide)
  rw [← eb6] at rk6
  have HG6 := Lib.hid (hGet_any w.heap.size T g _ _ _ _ _ [3] w6 (hT5.below hb6) (by simp) (by simp) (fun i y h => by
    match i, h with
    | 0, h => simp at h; subst h; simp [k3]
    | i + 1, h => simp at h) rk6 (by decide))
  have HT6 := Lib.hid (hT5.below hb6)
  have O6 := Lib.hid (o5.below hb6 o5.lt)
  have Hb06 := Lib.hid (hb05.trans (hb6.mono hb05.size))
  have OK6 := Lib.hid ((OK4.out.below hb5 OK4.out.lt).below hb6 (Nat.lt_of_lt_of_le OK4.out.lt hb5.size))
  have HW6 := Lib.hid hw6
  have Eb6 := Lib.hid eb6
  clear hT5 o5 hb05 hb6 rk6 hw6 eb6 hb5 HT4 O4 Hb04
  go_wp2_with fail
  rw [← HW6.out, ← Eb6.out]
  refine HG6.out.mono ?_
  rintro e w7 ⟨⟨gk, gs, gn, gm, y, is, rfl, hcy, -, hwh⟩, hb7⟩
  obtain ⟨rfl, rfl⟩ : y = k3 ∧ is = true := by
    rcases hwh with ⟨-, h1, h2⟩ | ⟨h1, -⟩
    · rw [get_k3] at h1
      injection h1 with h1
      exact ⟨h1.symm, h2⟩
    · rcases h1 with h1 | h1
      · rw [ok_3] at h1; cases h1
      · rw [get_k3] at h1; cases h1
  obtain ⟨⟨P1, d1, rfl, -⟩, ⟨P2, d2, rfl, -⟩, ⟨P3, d3, rfl, -⟩, ⟨P4, d4, rfl, -⟩⟩ := hcy
  obtain ⟨b8, eb8⟩ : ∃ b8, b8 = w7.heap.size := ⟨_, rfl⟩
  obtain ⟨w8, hw8⟩ : ∃ w8, w8 = w7.alloc (.cells #[.slice P1 1 d1, .int .i64 1, .slice P2 0 d2, .slice P3 0 d3, .slice P4 0 d4] 39) := ⟨_, rfl⟩
  have o8 : Own 39 w8 w7.heap.size [.slice P1 1 d1, .int .i64 1, .slice P2 0 d2, .slice P3 0 d3, .slice P4 0 d4] := by rw [hw8]; exact heap_alloc_new w7 _
  have hb8 : Below w7.heap.size w7 w8 := by rw [hw8]; exact (Below.refl _ w7).alloc (Nat.le_refl _) _
  have z8 : w8.heap.size = w7.heap.size + 1 := by rw [hw8]; simp
  have hT8 := (HT6.out.below hb7).below hb8
  have oc8 := (O6.out.below hb7 O6.out.lt).below hb8 (Nat.lt_of_lt_of_le O6.out.lt hb7.size)
  have hb08 := (Hb06.out.trans (hb7.mono Hb06.out.size)).trans (hb8.mono (Nat.le_trans Hb06.out.size hb7.size))
  obtain ⟨w9, hw9⟩ : ∃ w9, w9 = w8.alloc (.cells #[.slice (some ⟨bk, 0, none⟩) 1 1, .int .i64 1, .slice none 0 0, .slice none 0 0, .slice none 0 0] 39) := ⟨_, rfl⟩
  have hb9 : Below w8.heap.size w8 w9 := by rw [hw9]; exact (Below.refl _ w8).alloc (Nat.le_refl _) _
  have o9 : Own 39 w9 w8.heap.size [.slice (some ⟨bk, 0, none⟩) 1 1, .int .i64 1, .slice none 0 0, .slice none 0 0, .slice none 0 0] := by rw [hw9]; exact heap_alloc_new w8 _
  have ok8 := (OK6.out.below hb7 OK6.out.lt).below hb8 (Nat.lt_of_lt_of_le OK6.out.lt hb7.size)
  have ok9 := ok8.below hb9 ok8.lt
  have rk9 : RI w9 (.slice (some ⟨bk, 0, none⟩) 1 1) [3] := row_ri _ bk [3] 3 (by simp [inK]) ok9 (by decide)
  have hrow : RowC w9 (some ⟨w8.heap.size, 0, none⟩) 1 [k3] := fun _ => ⟨_, rfl, fun j x hj => by
    match j, hj with
    | 0, hj =>
      simp at hj
      subst hj
      exact ⟨_, _, _, _, o9.cell (i := 0) rfl, o9.cell (i := 1) rfl, o9.cell (i := 2) rfl, o9.cell (i := 3) rfl, o9.cell (i := 4) rfl, ⟨rk9, nil_ri _, nil_ri _, nil_ri _⟩, by simp [inK, k3]⟩
    | j + 1, hj => simp at hj⟩
  have hgr := hGroup_any (some ⟨w8.heap.size, 0, none⟩) 1 1 1 1 0 [k3] w9 hrow rfl (fun h => by cases h) (fun x hx => by simp at hx; subst hx; exact ⟨rfl, ok_3, rfl, rfl, rfl⟩) (by omega) (by omega) (by omega) (by omega) (by omega)
  rw [parts_k3] at hgr
  have HGR := Lib.hid hgr
  have HT9 := Lib.hid (hT8.below hb9)
  rw [← eb8] at o8
  have O9 := Lib.hid (o8.below hb9 (by omega))
  have Hb09 := Lib.hid (hb08.trans (hb9.mono hb08.size))
  obtain ⟨f0, f1, f2, f3, f4⟩ := oc8.bx
  have HW8 := Lib.hid hw8
  have HW9 := Lib.hid hw9
  have Eb8 := Lib.hid eb8
  clear hgr hrow rk9 ok8 ok9 o8 o9 oc8 hb8 hb9 hT8 hb08 z8 hw8 hw9 eb8 hb7 hwh HG6
  go_upto_region 7 with (fail)
  rw [← Eb8.out]
  simp only [show k3.key.length = 1 from rfl, show k3.sum.length = 0 from rfl, show k3.mn.length = 0 from rfl, show k3.mx.length = 0 from rfl, show k3.cnt = 1 from rfl]
  rw [← HW8.out]
  go_wp2_with fail
  clear f0 f1 f2 f3 f4
  rw [← HW9.out]
  refine HGR.out.mono ?_
  rintro e w10 ⟨v10, us10, rfl, -, hb10⟩
  have c1 := (O9.out.below hb10 O9.out.lt).cell (i := 1) rfl
  have HLE := Lib.hid (hLen_any w.heap.size T g _ _ _ _ w10 (HT9.out.below hb10))
  have Hb10 := Lib.hid (Hb09.out.trans (hb10.mono Hb09.out.size))
  have hl1 : (cellsT [some k3]).length = 1 := rfl
  rw [hl1] at HLE
  clear hb10 HGR
  go_wp2_with fail
  refine HLE.out.mono ?_
  rintro e w' ⟨rfl, rfl⟩
  go_wp2
  go_ret
  exact ⟨rfl, Hb10.out⟩
end Go.Proofs.Ytioddfodajinlaa
