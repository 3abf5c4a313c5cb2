/- Package match's offers: the free columns, rising, each with what it comes to. -/
import Derived.RangeFuncNested
import Derived.RangeFuncBound
import Derived.RangeFuncCalls
import Derived.RangeFuncLeaves
import Derived.RangeFuncBox
import Derived.Shelf.RegionOpen
import Derived.OwnWalkIn
import Derived.TacticsInMore
import Derived.LoopNIn
import Derived.LoopIn
import Derived.Test.YtnjalnnbdmmcmaaMat2
import Derived.Test.YtnjalnnbdmmcmaaRegN
namespace Go.Proofs.Ytnjalnnbdmmcmaa
open Go.RowKit Go.Shelf
attribute [local go_sem] Oper.semAt_some
/-- A free column. -/
abbrev Fr (m s : Nat) := { k : Nat // k ∈ free m s }
/-- What column k comes to. -/
def valK (row : List Int) (V : Nat → Int) (k : Nat) : Int := cst row k + V k
theorem free_succ (m s : Nat) : free (m + 1) s = if s.testBit m then free m s else free m s ++ [m] := by
  unfold free
  rw [List.range_succ, List.filter_append, List.filter_cons, List.filter_nil]
  cases s.testBit m <;> simp
theorem free_le (m s : Nat) : (free m s).length ≤ m := by
  unfold free
  exact Nat.le_trans (List.length_filter_le _ _) (by simp)
theorem free_mono {a b s : Nat} (h : a ≤ b) : (free a s).length ≤ (free b s).length := by
  induction h with
  | refl => exact Nat.le_refl _
  | step _ ih =>
    rename_i n h
    rw [free_succ]
    split
    · exact ih
    · rw [List.length_append]; omega
/-- The boxes of offers: what they hold. -/
structure Off (w : World) (b1 b2 b3 G N m s : Nat) (row : List Int) (V : Nat → Int) : Prop where
  row : ∃ R cr, w.cell? ⟨b1, 0, none⟩ = some (.slice R m cr) ∧ Nums .i64 w R m row
  set : w.cell? ⟨b2, 0, none⟩ = some (.int .i64 s)
  rest : w.cell? ⟨b3, 0, none⟩ = some (.slice (some ⟨G, 0, none⟩) N N)
  val : ∀ k ∈ free m s, s ||| 2 ^ k < N ∧ w.cell? ⟨G, s ||| 2 ^ k, none⟩ = some (.int .i64 (V k)) ∧ 0 ≤ V k ∧ V k ≤ 12000000
theorem Off.keep {w w' : World} {b1 b2 b3 G N m s : Nat} {row : List Int} {V : Nat → Int} (h : Off w b1 b2 b3 G N m s row V) (hk : Keeps w w') : Off w' b1 b2 b3 G N m s row V :=
  ⟨by obtain ⟨R, cr, h1, h2⟩ := h.row; exact ⟨R, cr, hk _ _ h1, h2.keep hk⟩, hk _ _ h.set, hk _ _ h.rest, fun k hk' => by obtain ⟨a, b, c⟩ := h.val k hk'; exact ⟨a, hk _ _ b, c⟩⟩
theorem grown_drew (W : World) : W.grownBy W.drew none := ⟨rfl, rfl, rfl, Nat.le_refl _, fun _ _ _ => rfl⟩
set_option maxRecDepth 100000 in
set_option maxHeartbeats 4000000 in
theorem offers1_in (n : Nat) (hn : 1 ≤ n) (l b1 b2 b3 G N m s : Nat) (row : List Int) (V : Nat → Int) (hm : m ≤ 12) (hs : s < 100000) (hrow : ∀ x ∈ row, 0 ≤ x ∧ x ≤ 1000000) (J Jx : List (Fr m s) → World → Prop)
    (W0 W : World) (hO : Off W0 b1 b2 b3 G N m s row V) (hB0 : Below W0.heap.size W0 W) (hA : AbidesFrom W.heap.size J)
    (hY : ∀ pre x W1, J pre W1 → pre.length < (free m s).length → YieldAt Fence.wide (n - 1) Try.prog l #[.int .i64 (x.1 : Int), .int .i64 (valK row V x.1)] W1 fun e W' =>
      (e = .returned (.bool true) ∧ J (pre ++ [x]) W' ∧ Below W0.heap.size W1 W') ∨ (e = .returned (.bool false) ∧ Jx (pre ++ [x]) W'))
    (h0 : J [] W) :
    CallsIn Fence.wide n Try.prog 23 #[.func (.yield l) #[] #[], .pointer (some ⟨b1, 0, none⟩), .pointer (some ⟨b2, 0, none⟩), .pointer (some ⟨b3, 0, none⟩)] W fun e W' => (∃ v, e = .returned v) ∧
      ((∃ ys : List (Fr m s), ys.map (·.1) = free m s ∧ J ys W') ∨ (∃ pre : List (Fr m s), (∃ k, pre.map (·.1) = free k s) ∧ Jx pre W')) := by
  have HO := Lib.hid hO
  have HR := Lib.hid hrow
  have HY := Lib.hid hY
  obtain ⟨R, cr, c0, hN0⟩ := hO.row
  have c1 := Keeps.of_below hB0 _ _ c0
  have HN := Lib.hid hN0
  clear hO hrow hY c0 hN0
  refine callsIn_of_wp Try.func23 rfl trivial ?_ rfl
  simp only [Try.ntmps23, List.size_toArray, List.length_cons, List.length_nil, Nat.reduceAdd, Nat.reduceSub, Array.replicate_succ, Array.replicate_zero, List.push_toArray, List.append_toArray, List.nil_append, List.cons_append]
  gi_wp2
  gi_loopw [9] (fun p wr => ∃ (k : Nat) (pre : List (Fr m s)), p = .int .i64 k ∧ k ≤ m ∧ pre.map (·.1) = free k s ∧ J pre wr ∧ Below W0.heap.size W0 wr ∧ W.heap.size ≤ wr.heap.size)
    (fun p _ => m - (intOf p).toNat)
  case atStart => exact ⟨0, [], rfl, Nat.zero_le _, rfl, h0, hB0, Nat.le_refl _⟩
  case round =>
    obtain ⟨k, pre, rfl, hk, hpre, hJ, hB, hz⟩ := hrel
    rename World => wr
    have hO := HO.out.keep (Keeps.of_below hB)
    clear c1 hB0
    have HB := Lib.hid hB
    have Hpre := Lib.hid hpre
    have HJ := Lib.hid hJ
    have hJd : J pre wr.drew := hA _ _ _ _ hJ (grown_drew wr) (fun r e => by cases e)
    have hBd := below_drewN hB 1
    change Below W0.heap.size W0 wr.drew at hBd
    have HJd := Lib.hid hJd
    have HBd := Lib.hid hBd
    clear hpre hJ hJd hBd h0
    by_cases hlt : k < m
    · have hkz : (k : Int) < (m : Int) := by omega
      obtain ⟨rd, x, rfl, hx, hxi, hcx⟩ := (HN.out.keep (Keeps.of_below HB.out)).at_ hlt
      have i0 : (0 : Int) ≤ (k : Int) := by omega
      have HC2 := Lib.hid (show wr.drew.cell? ⟨b2, 0, none⟩ = some (.int .i64 (s : Int)) from hO.set)
      have HX := Lib.hid hx
      clear hx hxi
      cases htb : s.testBit k with
      | true =>
        have hHAS := has_any s k wr.drew (by omega) (by omega)
        rw [htb] at hHAS
        have HAS := Lib.hid hHAS
        have hf := free_succ k s
        rw [if_pos htb] at hf
        have HF := Lib.hid hf
        clear hO htb hHAS hf
        gi_wp2
        refine region_N (S := fun W' => W'.cell? ⟨b2, 0, none⟩ = some (.int .i64 (s : Int))) (kill := []) (by kernel_rfl) HC2.out (fun hHeld => ?_)
        refine anyN_take (i := 0) (v := ?va0) (by kernel_rfl) rfl (by kernel_rfl) (by kernel_rfl) (by kernel_rfl) (by kernel_rfl) (by kernel_rfl) (fun _ _ _ h => h) (fun _ => rfl) (Or.inl ⟨by rfl, ?ya0⟩) hHeld ?ra0
        case ya0 => (intro W hW; go_simp; first | done | with_reducible rfl)
        try simp only [List.getElem_toArray, List.getElem_cons_zero, Act.put, List.setIfInBounds_toArray, List.set_cons_zero, List.set_cons_succ]
        refine anyN_take (i := 1) (v := ?va1) (by kernel_rfl) rfl (by kernel_rfl) (by kernel_rfl) (by kernel_rfl) (by kernel_rfl) (by kernel_rfl) (fun _ _ _ h => h) (fun _ => rfl) (Or.inl ⟨by rfl, ?ya1⟩) hHeld ?ra1
        case ya1 => (intro W hW; go_simp; first | done | with_reducible rfl)
        try simp only [List.getElem_toArray, List.getElem_cons_succ, List.getElem_cons_zero, Act.put, List.setIfInBounds_toArray, List.set_cons_zero, List.set_cons_succ]
        refine anyN_ready (rs := [2]) (by kernel_rfl) (by simp) ?_
        refine AllN.cons (by kernel_rfl) rfl (by rfl) (fun K hK => ?_) (AllN.nil)
        refine ⟨fun _ _ => trivial, ?_⟩
        go_simp
        refine (callsIn_wide.2 HAS.out).mono ?_
        rintro e w' ⟨rfl, rfl⟩
        refine hK.out _ _ (fun _ => HC2.out) ?_
        clear hK K
        try simp only [List.getElem_toArray, List.getElem_cons_succ, List.getElem_cons_zero, Act.put, List.setIfInBounds_toArray, List.set_cons_zero, List.set_cons_succ]
        refine anyN_take (i := 3) (v := ?va3) (by kernel_rfl) rfl (by kernel_rfl) (by kernel_rfl) (by kernel_rfl) (by kernel_rfl) (by kernel_rfl) (fun _ _ _ h => h) (fun _ => rfl) (Or.inl ⟨by rfl, ?ya3⟩) hHeld ?ra3
        case ya3 => (intro W hW; go_simp; first | done | with_reducible rfl)
        try simp only [List.getElem_toArray, List.getElem_cons_succ, List.getElem_cons_zero, Act.put, List.setIfInBounds_toArray, List.set_cons_zero, List.set_cons_succ]
        refine anyN_take (i := 4) (v := ?va4) (by kernel_rfl) rfl (by kernel_rfl) (by kernel_rfl) (by kernel_rfl) (by kernel_rfl) (by kernel_rfl) (fun _ _ _ h => h) (fun _ => rfl) (Or.inl ⟨by rfl, ?ya4⟩) hHeld ?ra4
        case ya4 => (intro W hW; go_simp; first | done | with_reducible rfl)
        try simp only [List.getElem_toArray, List.getElem_cons_succ, List.getElem_cons_zero, Act.put, List.setIfInBounds_toArray, List.set_cons_zero, List.set_cons_succ]
        refine anyN_take (i := 5) (v := undef) (by kernel_rfl) rfl (by kernel_rfl) (by kernel_rfl) (by kernel_rfl) (by kernel_rfl) (by kernel_rfl) (fun _ _ _ h => h) (fun _ => rfl) (Or.inr ⟨by rfl, rfl⟩) hHeld ?ra5
        try simp only [List.getElem_toArray, List.getElem_cons_succ, List.getElem_cons_zero, Act.put, List.setIfInBounds_toArray, List.set_cons_zero, List.set_cons_succ]
        refine anyN_take (i := 6) (v := undef) (by kernel_rfl) rfl (by kernel_rfl) (by kernel_rfl) (by kernel_rfl) (by kernel_rfl) (by kernel_rfl) (fun _ _ _ h => h) (fun _ => rfl) (Or.inr ⟨by rfl, rfl⟩) hHeld ?ra6
        try simp only [List.getElem_toArray, List.getElem_cons_succ, List.getElem_cons_zero, Act.put, List.setIfInBounds_toArray, List.set_cons_zero, List.set_cons_succ]
        refine anyN_take (i := 7) (v := undef) (by kernel_rfl) rfl (by kernel_rfl) (by kernel_rfl) (by kernel_rfl) (by kernel_rfl) (by kernel_rfl) (fun _ _ _ h => h) (fun _ => rfl) (Or.inr ⟨by rfl, rfl⟩) hHeld ?ra7
        try simp only [List.getElem_toArray, List.getElem_cons_succ, List.getElem_cons_zero, Act.put, List.setIfInBounds_toArray, List.set_cons_zero, List.set_cons_succ]
        refine anyN_take (i := 8) (v := undef) (by kernel_rfl) rfl (by kernel_rfl) (by kernel_rfl) (by kernel_rfl) (by kernel_rfl) (by kernel_rfl) (fun _ _ _ h => h) (fun _ => rfl) (Or.inr ⟨by rfl, rfl⟩) hHeld ?ra8
        try simp only [List.getElem_toArray, List.getElem_cons_succ, List.getElem_cons_zero, Act.put, List.setIfInBounds_toArray, List.set_cons_zero, List.set_cons_succ]
        refine anyN_take (i := 9) (v := undef) (by kernel_rfl) rfl (by kernel_rfl) (by kernel_rfl) (by kernel_rfl) (by kernel_rfl) (by kernel_rfl) (fun _ _ _ h => h) (fun _ => rfl) (Or.inr ⟨by rfl, rfl⟩) hHeld ?ra9
        try simp only [List.getElem_toArray, List.getElem_cons_succ, List.getElem_cons_zero, Act.put, List.setIfInBounds_toArray, List.set_cons_zero, List.set_cons_succ]
        refine anyN_take (i := 10) (v := undef) (by kernel_rfl) rfl (by kernel_rfl) (by kernel_rfl) (by kernel_rfl) (by kernel_rfl) (by kernel_rfl) (fun _ _ _ h => h) (fun _ => rfl) (Or.inr ⟨by rfl, rfl⟩) hHeld ?ra10
        try simp only [List.getElem_toArray, List.getElem_cons_succ, List.getElem_cons_zero, Act.put, List.setIfInBounds_toArray, List.set_cons_zero, List.set_cons_succ]
        refine anyN_ready (rs := [11]) (by kernel_rfl) (by simp) ?_
        refine AllN.skip rfl (by rfl) (fun _ => trivial) (fun _ => HC2.out) ?_ (AllN.nil)
        try simp only [List.getElem_toArray, List.getElem_cons_succ, List.getElem_cons_zero, Act.put, List.setIfInBounds_toArray, List.set_cons_zero, List.set_cons_succ]
        refine anyN_take (i := 12) (v := undef) (by kernel_rfl) rfl (by kernel_rfl) (by kernel_rfl) (by kernel_rfl) (by kernel_rfl) (by kernel_rfl) (fun _ _ _ h => h) (fun _ => rfl) (Or.inr ⟨by rfl, rfl⟩) hHeld ?ra12
        try simp only [List.getElem_toArray, List.getElem_cons_succ, List.getElem_cons_zero, Act.put, List.setIfInBounds_toArray, List.set_cons_zero, List.set_cons_succ]
        refine anyN_take (i := 13) (v := undef) (by kernel_rfl) rfl (by kernel_rfl) (by kernel_rfl) (by kernel_rfl) (by kernel_rfl) (by kernel_rfl) (fun _ _ _ h => h) (fun _ => rfl) (Or.inr ⟨by rfl, rfl⟩) hHeld ?ra13
        try simp only [List.getElem_toArray, List.getElem_cons_succ, List.getElem_cons_zero, Act.put, List.setIfInBounds_toArray, List.set_cons_zero, List.set_cons_succ]
        refine anyN_take (i := 14) (v := undef) (by kernel_rfl) rfl (by kernel_rfl) (by kernel_rfl) (by kernel_rfl) (by kernel_rfl) (by kernel_rfl) (fun _ _ _ h => h) (fun _ => rfl) (Or.inr ⟨by rfl, rfl⟩) hHeld ?ra14
        try simp only [List.getElem_toArray, List.getElem_cons_succ, List.getElem_cons_zero, Act.put, List.setIfInBounds_toArray, List.set_cons_zero, List.set_cons_succ]
        refine anyN_ready (rs := [15]) (by kernel_rfl) (by simp) ?_
        refine AllN.skip rfl (by rfl) (fun _ => trivial) (fun _ => HC2.out) ?_ (AllN.nil)
        try simp only [List.getElem_toArray, List.getElem_cons_succ, List.getElem_cons_zero, Act.put, List.setIfInBounds_toArray, List.set_cons_zero, List.set_cons_succ]
        refine anyN_take (i := 16) (v := undef) (by kernel_rfl) rfl (by kernel_rfl) (by kernel_rfl) (by kernel_rfl) (by kernel_rfl) (by kernel_rfl) (fun _ _ _ h => h) (fun _ => rfl) (Or.inr ⟨by rfl, rfl⟩) hHeld ?ra16
        try simp only [List.getElem_toArray, List.getElem_cons_succ, List.getElem_cons_zero, Act.put, List.setIfInBounds_toArray, List.set_cons_zero, List.set_cons_succ]
        refine anyN_take (i := 17) (v := ?va17) (by kernel_rfl) rfl (by kernel_rfl) (by kernel_rfl) (by kernel_rfl) (by kernel_rfl) (by kernel_rfl) (fun _ _ _ h => h) (fun _ => rfl) (Or.inl ⟨by rfl, ?ya17⟩) hHeld ?ra17
        case ya17 => (intro W hW; go_simp; first | done | with_reducible rfl)
        try simp only [List.getElem_toArray, List.getElem_cons_succ, List.getElem_cons_zero, Act.put, List.setIfInBounds_toArray, List.set_cons_zero, List.set_cons_succ]
        refine anyN_done (by kernel_rfl) ?_ _
        gi_wp2
        go_roundw
        case rel => exact ⟨k + 1, pre, by go_num, by omega, by rw [HF.out]; exact Hpre.out, HJd.out, HBd.out, hz⟩
        case measure => simp [intOf]; omega
      | false =>
        have hfk : k ∈ free m s := mem_free.2 ⟨hlt, htb⟩
        have hHAS := has_any s k wr.drew (by omega) (by omega)
        rw [htb] at hHAS
        have HAS := Lib.hid hHAS
        have HWI := Lib.hid (with_any s k wr.drew (by omega) (by omega))
        obtain ⟨v1, v2, v3, v4⟩ := hO.val k hfk
        have hO3 := hO.rest
        obtain ⟨q, hq⟩ : ∃ q, q = s ||| 2 ^ k := ⟨_, rfl⟩
        obtain ⟨v, hv⟩ : ∃ v, v = V k := ⟨_, rfl⟩
        rw [← hq] at HWI v1 v2
        rw [← hv] at v2 v3 v4
        have HCC : Hid (wr.drew.cell? ⟨b2, 0, none⟩ = some (.int .i64 (s : Int)) ∧ wr.drew.cell? ⟨b3, 0, none⟩ = some (.slice (some ⟨G, 0, none⟩) N N) ∧ wr.drew.cell? ⟨G, q, none⟩ = some (.int .i64 v)) := Lib.hid ⟨HC2.out, hO3, v2⟩
        have hxr := HR.out x (List.mem_of_getElem? HX.out)
        have hval : valK row V k = x + v := by unfold valK cst; rw [HX.out, hv]; rfl
        have hplen : pre.length < (free m s).length := by
          have e := congrArg List.length Hpre.out
          rw [List.length_map] at e
          have h1 := free_mono (s := s) (show k + 1 ≤ m by omega)
          rw [free_succ, if_neg (by rw [htb]; simp), List.length_append, List.length_singleton] at h1
          omega
        obtain ⟨fn, tmps, assign, body, hy, hR⟩ := HY.out pre ⟨k, hfk⟩ wr.drew HJd.out hplen
        dsimp only at hy hR
        rw [hval] at hy
        have hf := free_succ k s
        rw [if_neg (by rw [htb]; simp)] at hf
        have HF := Lib.hid hf
        have hq0 : (0 : Int) ≤ (q : Int) := by omega
        have hqN : (q : Int) < (N : Int) := by omega
        have hsum : IntKind.i64.wrap (x + v) = x + v := IntWalk.i64_in _ (by omega)
        clear hO htb hHAS hf hval hv v2 v3 v4 hxr hO3 hq
        gi_wp2
        refine region_N (S := fun W' => W'.cell? ⟨b2, 0, none⟩ = some (.int .i64 (s : Int)) ∧ W'.cell? ⟨b3, 0, none⟩ = some (.slice (some ⟨G, 0, none⟩) N N) ∧ W'.cell? ⟨G, q, none⟩ = some (.int .i64 v)) (kill := [15, 16, 17]) (by kernel_rfl) HCC.out (fun hHeld => ?_)
        refine anyN_take (i := 0) (v := ?vb0) (by kernel_rfl) rfl (by kernel_rfl) (by kernel_rfl) (by kernel_rfl) (by kernel_rfl) (by kernel_rfl) (fun _ _ _ h => h) (fun _ => rfl) (Or.inl ⟨by rfl, ?yb0⟩) hHeld ?rb0
        case yb0 => (intro W hW; obtain ⟨hA, hB, hC⟩ := hW; go_simp; first | done | with_reducible rfl)
        try simp only [List.getElem_toArray, List.getElem_cons_zero, Act.put, List.setIfInBounds_toArray, List.set_cons_zero, List.set_cons_succ]
        refine anyN_take (i := 1) (v := ?vb1) (by kernel_rfl) rfl (by kernel_rfl) (by kernel_rfl) (by kernel_rfl) (by kernel_rfl) (by kernel_rfl) (fun _ _ _ h => h) (fun _ => rfl) (Or.inl ⟨by rfl, ?yb1⟩) hHeld ?rb1
        case yb1 => (intro W hW; obtain ⟨hA, hB, hC⟩ := hW; go_simp; first | done | with_reducible rfl)
        try simp only [List.getElem_toArray, List.getElem_cons_succ, List.getElem_cons_zero, Act.put, List.setIfInBounds_toArray, List.set_cons_zero, List.set_cons_succ]
        refine anyN_ready (rs := [2]) (by kernel_rfl) (by simp) ?_
        refine AllN.cons (by kernel_rfl) rfl (by rfl) (fun K hK => ?_) (AllN.nil)
        refine ⟨fun _ _ => trivial, ?_⟩
        go_simp
        refine (callsIn_wide.2 HAS.out).mono ?_
        rintro e w' ⟨rfl, rfl⟩
        refine hK.out _ _ (fun _ => HCC.out) ?_
        clear hK K
        try simp only [List.getElem_toArray, List.getElem_cons_succ, List.getElem_cons_zero, Act.put, List.setIfInBounds_toArray, List.set_cons_zero, List.set_cons_succ]
        refine anyN_take (i := 3) (v := ?vb3) (by kernel_rfl) rfl (by kernel_rfl) (by kernel_rfl) (by kernel_rfl) (by kernel_rfl) (by kernel_rfl) (fun _ _ _ h => h) (fun _ => rfl) (Or.inl ⟨by rfl, ?yb3⟩) hHeld ?rb3
        case yb3 => (intro W hW; obtain ⟨hA, hB, hC⟩ := hW; go_simp; first | done | with_reducible rfl)
        try simp only [List.getElem_toArray, List.getElem_cons_succ, List.getElem_cons_zero, Act.put, List.setIfInBounds_toArray, List.set_cons_zero, List.set_cons_succ]
        refine anyN_take (i := 4) (v := ?vb4) (by kernel_rfl) rfl (by kernel_rfl) (by kernel_rfl) (by kernel_rfl) (by kernel_rfl) (by kernel_rfl) (fun _ _ _ h => h) (fun _ => rfl) (Or.inl ⟨by rfl, ?yb4⟩) hHeld ?rb4
        case yb4 => (intro W hW; obtain ⟨hA, hB, hC⟩ := hW; go_simp; first | done | with_reducible rfl)
        try simp only [List.getElem_toArray, List.getElem_cons_succ, List.getElem_cons_zero, Act.put, List.setIfInBounds_toArray, List.set_cons_zero, List.set_cons_succ]
        refine anyN_take (i := 5) (v := ?vb5) (by kernel_rfl) rfl (by kernel_rfl) (by kernel_rfl) (by kernel_rfl) (by kernel_rfl) (by kernel_rfl) (fun _ _ _ h => h) (fun _ => rfl) (Or.inl ⟨by rfl, ?yb5⟩) hHeld ?rb5
        case yb5 => (intro W hW; obtain ⟨hA, hB, hC⟩ := hW; go_simp; first | done | with_reducible rfl)
        try simp only [List.getElem_toArray, List.getElem_cons_succ, List.getElem_cons_zero, Act.put, List.setIfInBounds_toArray, List.set_cons_zero, List.set_cons_succ]
        refine anyN_take (i := 6) (v := ?vb6) (by kernel_rfl) rfl (by kernel_rfl) (by kernel_rfl) (by kernel_rfl) (by kernel_rfl) (by kernel_rfl) (fun _ _ _ h => h) (fun _ => rfl) (Or.inl ⟨by rfl, ?yb6⟩) hHeld ?rb6
        case yb6 => (intro W hW; obtain ⟨hA, hB, hC⟩ := hW; go_simp; first | done | with_reducible rfl)
        try simp only [List.getElem_toArray, List.getElem_cons_succ, List.getElem_cons_zero, Act.put, List.setIfInBounds_toArray, List.set_cons_zero, List.set_cons_succ]
        refine anyN_take (i := 7) (v := ?vb7) (by kernel_rfl) rfl (by kernel_rfl) (by kernel_rfl) (by kernel_rfl) (by kernel_rfl) (by kernel_rfl) (fun _ _ _ h => h) (fun _ => rfl) (Or.inl ⟨by rfl, ?yb7⟩) hHeld ?rb7
        case yb7 => (intro W hW; obtain ⟨hA, hB, hC⟩ := hW; go_simp; first | done | with_reducible rfl)
        try simp only [List.getElem_toArray, List.getElem_cons_succ, List.getElem_cons_zero, Act.put, List.setIfInBounds_toArray, List.set_cons_zero, List.set_cons_succ]
        refine anyN_take (i := 8) (v := ?vb8) (by kernel_rfl) rfl (by kernel_rfl) (by kernel_rfl) (by kernel_rfl) (by kernel_rfl) (by kernel_rfl) (fun _ _ _ h => h) (fun _ => rfl) (Or.inl ⟨by rfl, ?yb8⟩) hHeld ?rb8
        case yb8 => (intro W hW; obtain ⟨hA, hB, hC⟩ := hW; go_simp; first | done | with_reducible rfl)
        try simp only [List.getElem_toArray, List.getElem_cons_succ, List.getElem_cons_zero, Act.put, List.setIfInBounds_toArray, List.set_cons_zero, List.set_cons_succ]
        refine anyN_take (i := 9) (v := ?vb9) (by kernel_rfl) rfl (by kernel_rfl) (by kernel_rfl) (by kernel_rfl) (by kernel_rfl) (by kernel_rfl) (fun _ _ _ h => h) (fun _ => rfl) (Or.inl ⟨by rfl, ?yb9⟩) hHeld ?rb9
        case yb9 => (intro W hW; obtain ⟨hA, hB, hC⟩ := hW; go_simp; first | done | with_reducible rfl)
        try simp only [List.getElem_toArray, List.getElem_cons_succ, List.getElem_cons_zero, Act.put, List.setIfInBounds_toArray, List.set_cons_zero, List.set_cons_succ]
        refine anyN_take (i := 10) (v := ?vb10) (by kernel_rfl) rfl (by kernel_rfl) (by kernel_rfl) (by kernel_rfl) (by kernel_rfl) (by kernel_rfl) (fun _ _ _ h => h) (fun _ => rfl) (Or.inl ⟨by rfl, ?yb10⟩) hHeld ?rb10
        case yb10 => (intro W hW; obtain ⟨hA, hB, hC⟩ := hW; go_simp; first | done | with_reducible rfl)
        try simp only [List.getElem_toArray, List.getElem_cons_succ, List.getElem_cons_zero, Act.put, List.setIfInBounds_toArray, List.set_cons_zero, List.set_cons_succ]
        refine anyN_ready (rs := [11]) (by kernel_rfl) (by simp) ?_
        refine AllN.cons (by kernel_rfl) rfl (by rfl) (fun K hK => ?_) (AllN.nil)
        refine ⟨fun _ _ => trivial, ?_⟩
        go_simp
        refine (callsIn_wide.2 HWI.out).mono ?_
        rintro e w' ⟨rfl, rfl⟩
        refine hK.out _ _ (fun _ => HCC.out) ?_
        clear hK K
        try simp only [List.getElem_toArray, List.getElem_cons_succ, List.getElem_cons_zero, Act.put, List.setIfInBounds_toArray, List.set_cons_zero, List.set_cons_succ]
        refine anyN_take (i := 12) (v := ?vb12) (by kernel_rfl) rfl (by kernel_rfl) (by kernel_rfl) (by kernel_rfl) (by kernel_rfl) (by kernel_rfl) (fun _ _ _ h => h) (fun _ => rfl) (Or.inl ⟨by rfl, ?yb12⟩) hHeld ?rb12
        case yb12 => (intro W hW; obtain ⟨hA, hB, hC⟩ := hW; go_simp; first | done | with_reducible rfl)
        try simp only [List.getElem_toArray, List.getElem_cons_succ, List.getElem_cons_zero, Act.put, List.setIfInBounds_toArray, List.set_cons_zero, List.set_cons_succ]
        refine anyN_take (i := 13) (v := ?vb13) (by kernel_rfl) rfl (by kernel_rfl) (by kernel_rfl) (by kernel_rfl) (by kernel_rfl) (by kernel_rfl) (fun _ _ _ h => h) (fun _ => rfl) (Or.inl ⟨by rfl, ?yb13⟩) hHeld ?rb13
        case yb13 => (intro W hW; obtain ⟨hA, hB, hC⟩ := hW; go_simp; first | done | with_reducible rfl)
        try simp only [List.getElem_toArray, List.getElem_cons_succ, List.getElem_cons_zero, Act.put, List.setIfInBounds_toArray, List.set_cons_zero, List.set_cons_succ]
        refine anyN_take (i := 14) (v := ?vb14) (by kernel_rfl) rfl (by kernel_rfl) (by kernel_rfl) (by kernel_rfl) (by kernel_rfl) (by kernel_rfl) (fun _ _ _ h => h) (fun _ => rfl) (Or.inl ⟨by rfl, ?yb14⟩) hHeld ?rb14
        case yb14 => (intro W hW; obtain ⟨hA, hB, hC⟩ := hW; go_simp; first | done | with_reducible rfl)
        try simp only [List.getElem_toArray, List.getElem_cons_succ, List.getElem_cons_zero, Act.put, List.setIfInBounds_toArray, List.set_cons_zero, List.set_cons_succ]
        refine anyN_ready (rs := [15]) (by kernel_rfl) (by simp) ?_
        refine AllN.cons (by kernel_rfl) rfl (by rfl) (fun K hK => ?_) (AllN.nil)
        refine ⟨fun _ _ => trivial, ?_⟩
        go_simp
        refine hR.mono ?_
        rintro e W3 (⟨rfl, hJ3, hk3⟩ | ⟨rfl, hJx3⟩)
        · have HJ3 := Lib.hid hJ3
          have HB3 := Lib.hid (HBd.out.trans hk3)
          have hz3 := hk3.size
          clear hJ3 hk3 hy
          refine hK.out _ _ (fun h => absurd (by decide) h) ?_
          clear hK K
          try simp only [List.getElem_toArray, List.getElem_cons_succ, List.getElem_cons_zero, Act.put, List.setIfInBounds_toArray, List.set_cons_zero, List.set_cons_succ]
          refine anyN_late (i := 16) (v := ?vc16) (by kernel_rfl) rfl (by kernel_rfl) (by kernel_rfl) (by kernel_rfl) (by kernel_rfl) (by decide) (fun _ _ _ h => h) (fun _ => rfl) (Or.inl ⟨by rfl, ?yc16⟩) ?rc16
          case yc16 => (intro W hW; go_simp; first | done | with_reducible rfl)
          try simp only [List.getElem_toArray, List.getElem_cons_succ, List.getElem_cons_zero, Act.put, List.setIfInBounds_toArray, List.set_cons_zero, List.set_cons_succ]
          refine anyN_late (i := 17) (v := ?vc17) (by kernel_rfl) rfl (by kernel_rfl) (by kernel_rfl) (by kernel_rfl) (by kernel_rfl) (by decide) (fun _ _ _ h => h) (fun _ => rfl) (Or.inl ⟨by rfl, ?yc17⟩) ?rc17
          case yc17 => (intro W hW; go_simp; first | done | with_reducible rfl)
          try simp only [List.getElem_toArray, List.getElem_cons_succ, List.getElem_cons_zero, Act.put, List.setIfInBounds_toArray, List.set_cons_zero, List.set_cons_succ]
          refine anyN_done (by kernel_rfl) ?_ _
          gi_wp2
          go_roundw
          case rel => exact ⟨k + 1, pre ++ [⟨k, hfk⟩], by go_num, by omega, by rw [HF.out, List.map_append, Hpre.out]; rfl, HJ3.out, HB3.out, Nat.le_trans hz hz3⟩
          case measure => simp [intOf]; omega
        · have HJ3 := Lib.hid hJx3
          clear hJx3 hy
          refine hK.out _ _ (fun h => absurd (by decide) h) ?_
          clear hK K
          try simp only [List.getElem_toArray, List.getElem_cons_succ, List.getElem_cons_zero, Act.put, List.setIfInBounds_toArray, List.set_cons_zero, List.set_cons_succ]
          refine anyN_late (i := 16) (v := ?vd16) (by kernel_rfl) rfl (by kernel_rfl) (by kernel_rfl) (by kernel_rfl) (by kernel_rfl) (by decide) (fun _ _ _ h => h) (fun _ => rfl) (Or.inl ⟨by rfl, ?yd16⟩) ?rd16
          case yd16 => (intro W hW; go_simp; first | done | with_reducible rfl)
          try simp only [List.getElem_toArray, List.getElem_cons_succ, List.getElem_cons_zero, Act.put, List.setIfInBounds_toArray, List.set_cons_zero, List.set_cons_succ]
          refine anyN_late (i := 17) (v := ?vd17) (by kernel_rfl) rfl (by kernel_rfl) (by kernel_rfl) (by kernel_rfl) (by kernel_rfl) (by decide) (fun _ _ _ h => h) (fun _ => rfl) (Or.inl ⟨by rfl, ?yd17⟩) ?rd17
          case yd17 => (intro W hW; go_simp; first | done | with_reducible rfl)
          try simp only [List.getElem_toArray, List.getElem_cons_succ, List.getElem_cons_zero, Act.put, List.setIfInBounds_toArray, List.set_cons_zero, List.set_cons_succ]
          refine anyN_done (by kernel_rfl) ?_ _
          gi_wp2
          refine bodyPost_ret (results_none rfl _ _ _) rfl ?_
          exact ⟨⟨_, rfl⟩, .inr ⟨pre ++ [⟨k, hfk⟩], ⟨k + 1, by rw [HF.out, List.map_append, Hpre.out]; rfl⟩, HJ3.out⟩⟩
    · obtain rfl : k = m := by omega
      have hkz : decide ((k : Int) < (k : Int)) = false := by simp
      clear hO
      gi_wp2
      go_end0
      exact ⟨⟨_, rfl⟩, .inl ⟨pre, Hpre.out, HJ.out⟩⟩
theorem offers_stops (n : Nat) (hn : 1 ≤ n) (b1 b2 b3 G N m s : Nat) (row : List Int) (V : Nat → Int) (hm : m ≤ 12) (hs : s < 100000) (hrow : ∀ x ∈ row, 0 ≤ x ∧ x ≤ 1000000) (w : World) (hO : Off w b1 b2 b3 G N m s row V) :
    SeqStopsK Fence.wide n Try.prog 23 #[.pointer (some ⟨b1, 0, none⟩), .pointer (some ⟨b2, 0, none⟩), .pointer (some ⟨b3, 0, none⟩)] (fun x : Fr m s => #[Value.int .i64 (x.1 : Int), Value.int .i64 (valK row V x.1)]) (Below w.heap.size) (fun ys => ys.map (·.1) = free m s) (fun pre => ∃ k, pre.map (·.1) = free k s) (free m s).length w := fun l J Jx W hW hA _ hY h0 =>
  offers1_in n hn l b1 b2 b3 G N m s row V hm hs hrow J Jx w W hO hW hA hY h0
set_option maxHeartbeats 1000000 in
theorem offers_any (Vr Vc : Value) (s : Int) (hr : (∃ a n c, Vr = .slice a n c) ∧ (∃ a n c, Vc = .slice a n c)) (w : World) :
    Calls Try.prog 20 #[Vr, Vc, .int .i64 s] w fun e w' => e = .returned (.func (.func 23) #[] #[.pointer (some ⟨w.heap.size + 1, 0, none⟩), .pointer (some ⟨w.heap.size + 2, 0, none⟩), .pointer (some ⟨w.heap.size, 0, none⟩)]) ∧ w' = ((w.alloc (.cells #[Vr] 30)).alloc (.cells #[Vc] 22)).alloc (.cells #[.int .i64 s] 40) := by
  obtain ⟨⟨a, n, c, rfl⟩, ⟨a', n', c', rfl⟩⟩ := hr
  go_enter Try.func20, Try.ntmps20
  go_wp2
  go_ret
  exact ⟨rfl, rfl⟩
end Go.Proofs.Ytnjalnnbdmmcmaa
