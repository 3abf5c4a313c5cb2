/- The reference's ahead: of each row, of each set of taken columns, what is left. -/
import Derived.Test.YtnjalnnbdmmcmaaMat7
namespace Go.Proofs.Ytnjalnnbdmmcmaa
open Go.RowKit Go.Shelf
attribute [local go_sem] Oper.semAt_some
theorem infoS : (Try.prog.info? 22).map (fun i => (i.zero, i.size, i.bytes)) = some (some (.slice none 0 0), 1, 24) := by kernel_rfl
theorem make_slices {P : Program} (t e : TypeId) (i : TypeInfo) (ht : P.underlying t = some (.slice e)) (hi : P.info? e = some i) (hz : i.zero = some (.slice none 0 0)) (hs : i.size = 1) (hb : i.bytes = 24) (n : Nat) (hn : n ≤ 100000) (w : World) :
    (Instr.makeSlice t (.int .i64 (n : Int)) (.int .i64 (n : Int))).run P w = .ok (.slice (some ⟨w.heap.size, 0, none⟩) n n) (w.alloc (.cells (madeCells #[.slice none 0 0] n) e)) := by
  have hr := run_make (P := P) w t e i (.slice none 0 0) ht hi hz .i64 .i64 n n (by omega) (by omega) (by rw [hb]; omega) (by omega)
  simpa [hs, Value.cells] using hr
theorem made_slices (w : World) (T : TypeId) (n : Nat) : Own T (w.alloc (.cells (madeCells #[.slice none 0 0] n) T)) w.heap.size (List.replicate n (.slice none 0 0)) := by
  unfold Own
  rw [heap_alloc_new]
  congr 2
  apply Array.ext'
  rw [toList_madeCells_one, List.toList_toArray]
/-- Whether a column is taken, as the reference asks. -/
theorem shr_bit (s k : Nat) (hs : s < 1000000) : (bits .and .i64 ((s : Int) / 2 ^ k) 1 == 1) = s.testBit k := by
  have e : ((s : Int) / 2 ^ k) = ((s / 2 ^ k : Nat) : Int) := by push_cast; rfl
  have hle : s / 2 ^ k ≤ s := Nat.div_le_self _ _
  have h1 := and_nat (s / 2 ^ k) 1 (by omega) (by omega)
  rw [e, show ((1 : Int)) = ((1 : Nat) : Int) from rfl, h1, Nat.and_one_is_mod, Nat.testBit_eq_decide_div_mod_eq, Bool.eq_iff_iff]
  simp only [beq_iff_eq, decide_eq_true_eq]
  omega
theorem restT_in : ∀ (M : List (List Int)) (s : Nat), (∀ r ∈ M, ∀ x ∈ r, 0 ≤ x ∧ x ≤ 1000000) → -1 ≤ restT M s ∧ restT M s ≤ 1000000 * M.length
  | [], _, _ => by simp [restT]
  | row :: rows, s, h => by
    unfold restT
    have key : ∀ m, m ≤ row.length → -1 ≤ (List.range m).foldl (stepT row (restT rows) s) (-1) ∧ (List.range m).foldl (stepT row (restT rows) s) (-1) ≤ 1000000 * (row :: rows).length := by
      intro m
      induction m with
      | zero => intro _; simp only [List.range_zero, List.foldl_nil, List.length_cons]; omega
      | succ m ih =>
        intro hm
        have ih := ih (by omega)
        rw [List.range_succ, List.foldl_append]
        show -1 ≤ stepT row (restT rows) s _ m ∧ stepT row (restT rows) s _ m ≤ _
        have a := restT_in rows (s ||| 2 ^ m) (fun r hr => h r (List.mem_cons_of_mem _ hr))
        have b := h row (List.mem_cons_self ..) _ (cst_mem (row := row) (k := m) (by omega))
        unfold stepT
        simp only [List.length_cons] at ih ⊢
        split
        · exact ih
        · split
          · rename_i h2
            constructor <;> omega
          · exact ih
    exact key _ (Nat.le_refl _)
/-- One row of the table, the first t of it. -/
def rowT (M : List (List Int)) (N t : Nat) : List Int := (List.range N).map fun s => if s < t then restT M s else 0
theorem rowT_zero (M : List (List Int)) (N : Nat) : rowT M N 0 = List.replicate N 0 := by
  apply List.ext_getElem
  · simp [rowT]
  · intro i h1 h2
    simp [rowT]
theorem rowT_at (M : List (List Int)) {N s : Nat} (h : s < N) : (rowT M N N)[s]? = some (restT M s) := by
  unfold rowT
  rw [List.getElem?_map, List.getElem?_range h]
  simp [h]
theorem rowT_un (M : List (List Int)) {N s : Nat} (h : s < N) : (rowT M N s)[s]? = some 0 := by
  unfold rowT
  rw [List.getElem?_map, List.getElem?_range h]
  simp
theorem rowT_set (M : List (List Int)) {N s : Nat} : (rowT M N s).set s (restT M s) = rowT M N (s + 1) := by
  apply List.ext_getElem
  · simp [rowT]
  · intro i h1 h2
    simp only [rowT, List.getElem_set, List.getElem_map, List.getElem_range]
    by_cases h : s = i
    · subst h; simp
    · by_cases h3 : i < s
      · rw [if_neg h, if_pos h3, if_pos (by omega)]
      · rw [if_neg h, if_neg h3, if_neg (by omega)]
theorem rowT_nil (N : Nat) : rowT [] N N = List.replicate N 0 := by
  apply List.ext_getElem
  · simp [rowT]
  · intro i h1 h2
    simp [rowT, restT]
/-- The table from row i on. -/
structure TblO (w W : World) (gt n N i : Nat) (M : List (List Int)) (vs : List Value) : Prop where
  own : Own 22 W gt vs
  len : vs.length = n + 1
  row : ∀ j, i ≤ j → j ≤ n → ∃ g, vs[j]? = some (.slice (some ⟨g, 0, none⟩) N N) ∧ Arr .i64 3 W g (rowT (M.drop j) N N) ∧ w.heap.size ≤ g
  below : Below w.heap.size w W
theorem Arr.ne_own {W : World} {g gt : Nat} {xs : List Int} {vs : List Value} (h : Arr .i64 3 W g xs) (h' : Own 22 W gt vs) : g ≠ gt := by
  rintro rfl
  unfold Arr at h
  unfold Own at h'
  rw [h] at h'
  injection h' with h'
  injection h' with _ h2 _
  exact absurd h2 (by decide)
/-- The table from row i + 1 on, and the first s of row i. -/
structure TblI (w W : World) (gt n N i : Nat) (M : List (List Int)) (vs : List Value) (g s : Nat) : Prop where
  own : Own 22 W gt vs
  len : vs.length = n + 1
  row : ∀ j, i + 1 ≤ j → j ≤ n → ∃ g', vs[j]? = some (.slice (some ⟨g', 0, none⟩) N N) ∧ Arr .i64 3 W g' (rowT (M.drop j) N N) ∧ w.heap.size ≤ g' ∧ g' ≠ g
  at_ : vs[i]? = some (.slice (some ⟨g, 0, none⟩) N N)
  arr : Arr .i64 3 W g (rowT (M.drop i) N s)
  lo : w.heap.size ≤ g
  glo : w.heap.size ≤ gt
  below : Below w.heap.size w W
theorem Arr.other {kd : IntKind} {T : TypeId} {W : World} {g g' : Nat} {xs : List Int} (h : Arr kd T W g xs) (hne : g ≠ g') (i : Nat) (u : Value) : Arr kd T (W.setCell ⟨g', i, none⟩ u) g xs := (Below.heap_setCell _ _ _ _ hne).trans h
theorem Own.other' {T : TypeId} {W : World} {g g' : Nat} {vs : List Value} (h : Own T W g vs) (hne : g ≠ g') (i : Nat) (u : Value) : Own T (W.setCell ⟨g', i, none⟩ u) g vs := (Below.heap_setCell _ _ _ _ hne).trans h
theorem TblO.new {w W : World} {gt n N i : Nat} {M : List (List Int)} {vs : List Value} (h : TblO w W gt n N (i + 1) M vs) (hi : i ≤ n) (hg : w.heap.size ≤ gt) :
    TblI w ((W.setCell ⟨gt, i, none⟩ (.slice (some ⟨W.heap.size, 0, none⟩) N N)).alloc (.cells (madeCells #[.int .i64 0] N) 3)) gt n N i M (vs.set i (.slice (some ⟨W.heap.size, 0, none⟩) N N)) W.heap.size 0 := by
  have hz : (W.setCell ⟨gt, i, none⟩ (.slice (some ⟨W.heap.size, 0, none⟩) N N)).heap.size = W.heap.size := by simp [World.setCell]
  refine ⟨(h.own.set_ _ _).alloc _, by rw [List.length_set, h.len], fun j hj hjn => ?_, ?_, ?_, h.below.size, hg, ?_⟩
  · obtain ⟨g', a, b, c⟩ := h.row j hj hjn
    refine ⟨g', ?_, (b.other (b.ne_own h.own) _ _).alloc _, c, by have := b.lt; omega⟩
    rw [List.getElem?_set_ne (by omega)]
    exact a
  · rw [List.getElem?_set_self (by rw [h.len]; omega)]
  · have := Arr.made (W.setCell ⟨gt, i, none⟩ (.slice (some ⟨W.heap.size, 0, none⟩) N N)) 3 N
    rw [hz] at this
    rw [rowT_zero]
    exact this
  · exact (h.below.setCell (p := ⟨gt, i, none⟩) hg _).alloc (by rw [hz]; exact h.below.size) _
theorem TblI.step {w W : World} {gt n N i g s : Nat} {M : List (List Int)} {vs : List Value} (h : TblI w W gt n N i M vs g s) : TblI w (W.setCell ⟨g, s, none⟩ (.int .i64 (restT (M.drop i) s))) gt n N i M vs g (s + 1) :=
  ⟨h.own.other' (Ne.symm (h.arr.ne_own h.own)) _ _, h.len, fun j hj hjn => by obtain ⟨g', a, b, c, d⟩ := h.row j hj hjn; exact ⟨g', a, b.other d _ _, c, d⟩, h.at_, by rw [← rowT_set]; exact h.arr.set_ _ _, h.lo, h.glo, h.below.setCell (p := ⟨g, s, none⟩) h.lo _⟩
theorem TblI.whole {w W : World} {gt n N i g : Nat} {M : List (List Int)} {vs : List Value} (h : TblI w W gt n N i M vs g N) : TblO w W gt n N i M vs :=
  ⟨h.own, h.len, fun j hj hjn => by
    rcases Nat.eq_or_lt_of_le hj with rfl | hj
    · exact ⟨g, h.at_, h.arr, h.lo⟩
    · obtain ⟨g', a, b, c, -⟩ := h.row j hj hjn; exact ⟨g', a, b, c⟩, h.below⟩
set_option maxRecDepth 100000 in
set_option maxHeartbeats 8000000 in
theorem rAhead_any (A : Option Addr) (n c : Nat) (M : List (List Int)) (w : World) (hM : Mat w A n M) (hok : okM M = true) (h0 : 0 < n) :
    Calls Try.prog 12 #[.slice A n c] w fun e w' => ∃ gt vs, e = .returned (.slice (some ⟨gt, 0, none⟩) (n + 1) (n + 1)) ∧ TblO w w' gt n (2 ^ wid M) 0 M vs := by
  obtain ⟨k1, k2, k3⟩ := okM_spec hok
  have hlen := hM.1
  obtain ⟨ad, r0, B0, c0, rfl, hr0, hc0, -⟩ := hM.at_ h0
  rw [show ad.add 0 = ad from by simp [Addr.add]] at hc0
  have hl0 : r0.length = wid M := by unfold wid; rw [hr0]; rfl
  rw [hl0] at hc0
  obtain ⟨m, hm⟩ : ∃ m, m = wid M := ⟨_, rfl⟩
  rw [← hm] at k1 k2 k3 hc0 ⊢
  rw [hlen] at k2
  obtain ⟨N, hN⟩ : ∃ N, N = 2 ^ m := ⟨_, rfl⟩
  have n1 : 1 ≤ N := by rw [hN]; exact Nat.one_le_two_pow
  have n2 : N ≤ 4096 := by
    rw [hN]
    have : 2 ^ m ≤ 2 ^ 12 := Nat.pow_le_pow_right (by omega) k1
    omega
  have hsh : wrap64 (2 ^ m) = (N : Int) := by rw [pow_wrap m (by omega), hN]
  have hum := u64_small m (by omega)
  rw [← hN]
  obtain ⟨i0, hi, hz0, hz1, hz2⟩ := info_parts infoI
  have hmk := fun W => make_ints (P := Try.prog) 22 3 i0 Try.underlying22 hi hz0 hz1 hz2 N (by omega) W
  obtain ⟨i1, hi', hz0', hz1', hz2'⟩ := info_parts infoS
  have hms := make_slices (P := Try.prog) 25 22 i1 Try.underlying25 hi' hz0' hz1' hz2' (n + 1) (by omega) w
  have HMK := Lib.hid hmk
  have hown := made_slices w 22 (n + 1)
  have hb1 : Below w.heap.size w (w.alloc (.cells (madeCells #[.slice none 0 0] (n + 1)) 22)) := (Below.refl _ w).alloc (Nat.le_refl _) _
  have hz1s : (w.alloc (.cells (madeCells #[.slice none 0 0] (n + 1)) 22)).heap.size = w.heap.size + 1 := by simp
  obtain ⟨w1, hw1⟩ : ∃ w1, w1 = w.alloc (.cells (madeCells #[.slice none 0 0] (n + 1)) 22) := ⟨_, rfl⟩
  rw [← hw1] at hms hown hb1 hz1s
  obtain ⟨gt, hgt⟩ : ∃ gt, gt = w.heap.size := ⟨_, rfl⟩
  rw [← hgt] at hms hown
  have hmk1 := HMK.out w1
  have HK := Lib.hid k3
  have HM := Lib.hid hM
  have HL := Lib.hid hlen
  have HOWN := Lib.hid hown
  have hcn : w1.cell? ⟨gt, n, none⟩ = some (.slice none 0 0) := hown.cell (by rw [List.getElem?_replicate, if_pos (by omega)])
  have hfn := hown.frozen n
  have hnz : (0 : Int) ≤ (n : Int) := by omega
  have hgtl : gt < w1.heap.size := hown.lt
  have hnn : (n : Int) < (n : Int) + 1 := by omega
  have HB1 := Lib.hid hb1
  have hng : decide ((n : Int) + 1 < 0) = false := by simp; omega
  have hn0 : ((n + 1 : Nat) : Int) = (n : Int) + 1 := by omega
  rw [hn0] at hms
  have HGT := Lib.hid hgt
  have HZ1 := Lib.hid hz1s
  clear hz1s
  have HNp := Lib.hid hN
  clear hw1 hgt hown hb1 hM hlen k3 hr0 hl0 hm hN i0 hi hz0 hz1 hz2 i1 hi' hz0' hz1' hz2' hok hmk hn0
  go_enter Try.func12, Try.ntmps12
  go_wp2
  rw [hsh]
  have hst : TblO w ((w1.setCell ⟨gt, n, none⟩ (.slice (some ⟨w1.heap.size, 0, none⟩) N N)).alloc (.cells (madeCells #[.int .i64 0] N) 3)) gt n N n M ((List.replicate (n + 1) (.slice none 0 0)).set n (.slice (some ⟨w1.heap.size, 0, none⟩) N N)) := by
    have h := TblO.new (w := w) (W := w1) (gt := gt) (n := n) (N := N) (i := n) (M := M) (vs := List.replicate (n + 1) (.slice none 0 0)) ⟨HOWN.out, by simp, fun j h1 h2 => by omega, HB1.out⟩ (Nat.le_refl _) (by rw [HGT.out]; exact Nat.le_refl _)
    refine TblI.whole (g := w1.heap.size) ⟨h.own, h.len, h.row, h.at_, ?_, h.lo, h.glo, h.below⟩
    have ha := h.arr
    rw [List.drop_eq_nil_of_le (Nat.le_of_eq HL.out)] at ha ⊢
    rw [rowT_nil, ← rowT_zero []]
    exact ha
  have HST := Lib.hid hst
  have hgw : w.heap.size ≤ gt := by rw [HGT.out]; exact Nat.le_refl _
  clear hst hcn hfn hgtl hms hmk1 hc0
  go_loopw [6] (fun p wr => ∃ (t : Nat) (vs : List Value), p = .int .i64 ((t : Int) - 1) ∧ t ≤ n ∧ TblO w wr gt n N t M vs) (fun p _ => (intOf p + 1).toNat)
  case atStart => exact ⟨n, _, rfl, Nat.le_refl _, HST.out⟩
  case round =>
    obtain ⟨t, vs, rfl, ht, htb⟩ := hrel
    rename World => wr
    have HT := Lib.hid htb
    clear htb HST
    cases t with
    | zero =>
      have hneg : ¬ (0 ≤ (((0 : Nat) : Int) - 1)) := by omega
      go_wp2
      go_ret
      exact ⟨gt, rfl, vs, HT.out⟩
    | succ i =>
      rw [show (((i + 1 : Nat) : Int) - 1) = (i : Int) by omega]
      have hi0 : (0 : Int) ≤ (i : Int) := by omega
      have hin : (i : Int) < (n : Int) + 1 := by omega
      have hmkr := HMK.out wr
      obtain ⟨v0, hv0⟩ : ∃ v0, vs[i]? = some v0 := ⟨_, List.getElem?_eq_getElem (by have := HT.out.len; omega)⟩
      have hci := HT.out.own.cell hv0
      have hfi := HT.out.own.frozen i
      have hgl := HT.out.own.lt
      have HNEW := Lib.hid (HT.out.new (i := i) (by omega) hgw)
      clear hv0
      go_wp2
      rw [hsh]
      obtain ⟨g, hg⟩ : ∃ g, g = wr.heap.size := ⟨_, rfl⟩
      rw [← hg] at HNEW hmkr ⊢
      obtain ⟨vs', hvs'⟩ : ∃ vs', vs' = vs.set i (.slice (some ⟨g, 0, none⟩) N N) := ⟨_, rfl⟩
      rw [← hvs'] at HNEW
      clear hg hvs' hci hfi hgl hmkr hin
      go_loopw [7] (fun p wq => ∃ s : Nat, p = .int .i64 s ∧ s ≤ N ∧ TblI w wq gt n N i M vs' g s) (fun p _ => N - (intOf p).toNat)
      case atStart => exact ⟨0, rfl, Nat.zero_le _, HNEW.out⟩
      case round =>
        obtain ⟨s, rfl, hs, hti⟩ := hrel
        rename World => wq
        have HI := Lib.hid hti
        clear hti HNEW
        by_cases hlt : s < N
        · have hltz : (s : Int) < (N : Int) := by omega
          obtain ⟨ad2, r, B, cr, e2, hr, hcr, hnr⟩ := (HM.out.keep (Keeps.of_below HI.out.below)).at_ (show i < n by omega)
          obtain rfl : ad = ad2 := Option.some.inj e2
          obtain ⟨rl, rb⟩ := HK.out r (List.mem_of_getElem? hr)
          rw [rl] at hcr hnr
          obtain ⟨g1, q1, q2, q3, q4⟩ := HI.out.row (i + 1) (Nat.le_refl _) (by omega)
          have hc1 := HI.out.own.cell q1
          have hdrop : M.drop i = r :: M.drop (i + 1) := by
            obtain ⟨h1, rfl⟩ := List.getElem?_eq_some_iff.1 hr
            exact List.drop_eq_getElem_cons h1
          have hfin : (List.range m).foldl (stepT r (restT (M.drop (i + 1))) s) (-1) = restT (M.drop i) s := by rw [hdrop, restT, rl]
          have HFIN := Lib.hid hfin
          have hi1 : (0 : Int) ≤ (i : Int) + 1 := by omega
          have hi2 : (i : Int) + 1 < (n : Int) + 1 := by omega
          have hi3 : (i : Int) < (n : Int) := by omega
          have hi4 : ((i : Int) + 1).toNat = i + 1 := by omega
          have HC1 := Lib.hid hc1
          have HQ2 := Lib.hid q2
          have HRB := Lib.hid rb
          have HNR := Lib.hid hnr
          have HCR := Lib.hid hcr
          obtain ⟨X, hX⟩ : ∃ X : Nat → Int, X = restT (M.drop (i + 1)) := ⟨_, rfl⟩
          have HXB := Lib.hid (fun s => restT_in (M.drop (i + 1)) s (fun r hr => (HK.out r (List.mem_of_mem_drop hr)).2))
          have hdl : (M.drop (i + 1)).length ≤ 12 := by rw [List.length_drop, HL.out]; omega
          have HX := Lib.hid hX
          rw [← hX] at HFIN HXB
          clear e2 hr rl rb q1 q2 q3 q4 hdrop hfin hX hc1 hnr hcr
          go_wp2
          go_loop [8, 9] (fun b p => ∃ k : Nat, p = .int .i64 k ∧ k ≤ m ∧ b = .int .i64 ((List.range k).foldl (stepT r X s) (-1))) (fun _ p => m - (intOf p).toNat)
          case atStart => exact ⟨0, rfl, Nat.zero_le _, rfl⟩
          case round =>
            obtain ⟨k, rfl, hk, rfl⟩ := hrel
            have hfs : (List.range (k + 1)).foldl (stepT r X s) (-1) = stepT r X s ((List.range k).foldl (stepT r X s) (-1)) k := by rw [List.range_succ, List.foldl_append]; rfl
            obtain ⟨b, hb⟩ : ∃ b, b = (List.range k).foldl (stepT r X s) (-1) := ⟨_, rfl⟩
            have HBE := Lib.hid hb
            rw [← hb] at hfs ⊢
            have HFS := Lib.hid hfs
            clear hb hfs
            by_cases hkm : k < m
            · have hkz : (k : Int) < (m : Int) := by omega
              have hk0 : (0 : Int) ≤ (k : Int) := by omega
              have huk := u64_small k (by omega)
              have hsb := shr_bit s k (by omega)
              cases htb : s.testBit k with
              | true =>
                rw [htb] at hsb
                have hst : stepT r X s b k = b := by unfold stepT; rw [if_pos htb]
                have HST := Lib.hid (HFS.out.trans hst)
                clear htb hst
                go_wp2
                go_round
                case rel => exact ⟨k + 1, by go_num, by omega, by rw [HST.out]⟩
                case measure => simp [intOf]; omega
              | false =>
                rw [htb] at hsb
                obtain ⟨q, hq⟩ : ∃ q, q = s ||| 2 ^ k := ⟨_, rfl⟩
                have hqN : q < N := by
                  rw [hq, HNp.out]
                  exact Nat.or_lt_two_pow (by rw [← HNp.out]; exact hlt) (Nat.pow_lt_pow_right (by omega) hkm)
                have hqz : (q : Int) < (N : Int) := by omega
                have hq0 : (0 : Int) ≤ (q : Int) := by omega
                have hp8 := pow_le12 k (by omega)
                have hor : bits .or .i64 (s : Int) (wrap64 (2 ^ k)) = (q : Int) := by rw [pow_wrap k (by omega), or_nat s (2 ^ k) (by omega) (by omega), hq]
                have hc1 := HC1.out
                have hcx := HQ2.out.cell (rowT_at (M.drop (i + 1)) hqN)
                rw [← HX.out] at hcx
                have hxb := HXB.out q
                obtain ⟨rd, y, rfl, hy, -, hcy⟩ := HNR.out.at_ hkm
                have hcr := HCR.out
                have hyc : cst r k = y := by unfold cst; rw [hy]; rfl
                have hyb := HRB.out y (List.mem_of_getElem? hy)
                have hst := fun (p : Prop) (hp : p ↔ (0 ≤ X q ∧ (b < 0 ∨ X q + y < b))) => show stepT r X s b k = if (0 ≤ X q ∧ (b < 0 ∨ X q + y < b)) then X q + y else b from by unfold stepT; rw [if_neg (by rw [htb]; simp), ← hq, hyc]
                have hst := hst _ Iff.rfl
                obtain ⟨xv, hxv⟩ : ∃ xv, xv = X q := ⟨_, rfl⟩
                rw [← hxv] at hcx hxb hst
                have hS := HFS.out.trans hst
                have HSS := Lib.hid hS
                clear hst htb hyc hy hxv hq hS
                by_cases x0 : 0 ≤ xv
                · have e0 : decide (0 ≤ xv) = true := by simpa using x0
                  by_cases b0 : b < 0
                  · have e1 : decide (b < 0) = true := by simpa using b0
                    have HST := Lib.hid (HSS.out.trans (if_pos ⟨x0, .inl b0⟩))
                    clear b0
                    go_wp2
                    go_round
                    case rel => exact ⟨k + 1, by go_num, by omega, by rw [HST.out]⟩
                    case measure => simp [intOf]; omega
                  · have e1 : decide (b < 0) = false := by simpa using b0
                    by_cases b1 : xv + y < b
                    · have e2 : decide (xv + y < b) = true := by simpa using b1
                      have HST := Lib.hid (HSS.out.trans (if_pos ⟨x0, .inr b1⟩))
                      clear b0 b1
                      go_wp2
                      go_round
                      case rel => exact ⟨k + 1, by go_num, by omega, by rw [HST.out]⟩
                      case measure => simp [intOf]; omega
                    · have e2 : decide (xv + y < b) = false := by simpa using b1
                      have HST := Lib.hid (HSS.out.trans (if_neg (fun hh => by rcases hh.2 with h | h; exact b0 h; exact b1 h)))
                      clear b0 b1
                      go_wp2
                      go_round
                      case rel => exact ⟨k + 1, by go_num, by omega, by rw [HST.out]⟩
                      case measure => simp [intOf]; omega
                · have e0 : decide (0 ≤ xv) = false := by simpa using x0
                  have HST := Lib.hid (HSS.out.trans (if_neg (fun hh => x0 hh.1)))
                  clear x0
                  go_wp2
                  go_round
                  case rel => exact ⟨k + 1, by go_num, by omega, by rw [HST.out]⟩
                  case measure => simp [intOf]; omega
            · obtain rfl : k = m := by omega
              have hbe := HBE.out.trans HFIN.out
              have HBF := Lib.hid hbe
              have hcg := HI.out.own.cell HI.out.at_
              have hca := HI.out.arr.cell (rowT_un (M.drop i) hlt)
              have hfa := HI.out.arr.frozen s
              clear hbe
              go_wp2
              go_roundw
              case rel => exact ⟨s + 1, by go_num, by omega, by rw [HBF.out]; exact HI.out.step⟩
              case measure => simp [intOf]; omega
        · obtain rfl : s = N := by omega
          have hsN : decide ((s : Int) < (s : Int)) = false := by simp
          go_wp2
          go_roundw
          case rel => exact ⟨i, vs', by go_num, by omega, HI.out.whole⟩
          case measure => simp [intOf]
end Go.Proofs.Ytnjalnnbdmmcmaa
