/- Package sorts: rows that are laid whole; a set's dimensions; rows by sets. -/
import Derived.Test.YtjllmladhjbnaaaGreatDoorSoA
import Derived.Test.YtjllmladhjbnaaaGreatDoorRset
import Derived.Test.YtjllmladhjbnaaaGreatDoorMatUA
import Derived.Test.YtjllmladhjbnaaaGreatDoorSetsN
namespace Go.Proofs.YtjllmladhjbnaaaGreatDoor
open Go.RowKit Go.Shelf
attribute [local go_sem] Oper.semAt_some
/-- One row is written whole. -/
theorem OM.setRow {B go co i : Nat} {w : World} {v u : Value} {M : List (List Int)} {us : List Value} {r : List Int} (h : OM B w v M us) (hv : v = .slice (some ⟨go, 0, none⟩) M.length co) (hu : OI B w u r)
    (hap : ∀ (j : Nat) (u' : Value), j ≠ i → us[j]? = some u' → ∀ b, u.ownBlock = some b → u'.ownBlock ≠ some b) :
    OM B (w.setCell ⟨go, i, none⟩ u) v (M.set i r) (us.set i u) := by
  have hne : ∀ {x : Value} {xs : List Int}, OI B w x xs → x.ownBlock ≠ some go := fun {x xs} hx e => by
    rcases own_apart hx.1 h.own (by decide) with h4 | h4
    · rw [e] at h4; cases h4
    · exact h4 (by rw [e, hv]; rfl)
  refine ⟨?_, fun j y r' hj hr' => ?_, fun j k y y' hjk hy hy' => ?_⟩
  · rw [List.length_set]
    rcases h.own.2 with ⟨e0, _⟩ | ⟨gg, cap, cur, e0, a1, a2, a3, a4, a5, a6⟩
    · rw [hv] at e0; cases e0
    · refine ⟨by rw [List.length_set]; exact h.own.1, .inr ⟨gg, cap, cur.setIfInBounds i u, e0, a1, ?_, a3, a4, by simpa using a5, ?_⟩⟩
      · rw [hv] at e0
        injection e0 with e0 _ _
        injection e0 with e0
        injection e0 with e0
        subst e0
        simp [World.setCell, Array.getElem?_modify, a2]
      · rw [Array.toList_setIfInBounds, List.take_set, a6]
  · by_cases hij : i = j
    · subst hij
      have h1 : i < us.length := by have := (List.getElem?_eq_some_iff.1 hj).1; simpa using this
      rw [List.getElem?_set_self h1] at hj
      rw [List.getElem?_set_self (by rw [← h.len]; exact h1)] at hr'
      injection hj with hj
      injection hr' with hr'
      subst hj hr'
      exact ⟨only_own hu.1 (hne hu), hu.2⟩
    · rw [List.getElem?_set_ne hij] at hj hr'
      have hrj := h.row j y r' hj hr'
      exact ⟨only_own hrj.1 (hne hrj), hrj.2⟩
  · by_cases hij : i = j
    · subst hij
      rw [List.getElem?_set_self (by have := (List.getElem?_eq_some_iff.1 hy).1; simpa using this)] at hy
      injection hy with hy
      subst hy
      rw [List.getElem?_set_ne hjk] at hy'
      exact fun b hb => hap k y' (Ne.symm hjk) hy' b hb
    · rw [List.getElem?_set_ne hij] at hy
      by_cases hik : i = k
      · subst hik
        rw [List.getElem?_set_self (by have := (List.getElem?_eq_some_iff.1 hy').1; simpa using this)] at hy'
        injection hy' with hy'
        subst hy'
        exact fun b hb e => hap j y hjk hy b e hb
      · rw [List.getElem?_set_ne hik] at hy'
        exact h.ap j k y y' hjk hy hy'
/-- The dimensions of a set, below one. -/
def risTo (s : Int) : Nat → List Int
  | 0 => []
  | k + 1 => if s / 2 ^ k % 2 = 1 then risTo s k ++ [(k : Int)] else risTo s k
theorem risTo_all : ∀ s : Fin 16, risTo (s.val : Int) 4 = dimsL (s.val : Int) := by decide +kernel
theorem ris_bit : ∀ s : Fin 16, ∀ k : Fin 4, (bits .and .i64 (s.val : Int) (2 ^ k.val) != 0) = decide ((s.val : Int) / 2 ^ k.val % 2 = 1) := by decide +kernel
theorem risTo_len (s : Int) : ∀ k, (risTo s k).length ≤ k
  | 0 => Nat.le_refl _
  | k + 1 => by
    have := risTo_len s k
    unfold risTo
    split
    · rw [List.length_append]; simp; omega
    · omega
set_option maxRecDepth 100000 in
set_option maxHeartbeats 4000000 in
theorem rising_any (s : Int) (w : World) (s0 : 0 ≤ s) (s15 : s ≤ 15) :
    Calls Tryz.prog 32 #[.int .i64 s] w fun e w' => ∃ v, e = .returned v ∧ OI w.heap.size w' v (dimsL s) ∧ Below w.heap.size w w' := by
  obtain ⟨sN, hsN⟩ : ∃ sN : Nat, s = (sN : Int) := ⟨s.toNat, by omega⟩
  have hall := risTo_all ⟨sN, by omega⟩
  dsimp only at hall
  rw [← hsN] at hall
  have hbit := fun k : Fin 4 => ris_bit ⟨sN, by omega⟩ k
  dsimp only at hbit
  rw [← hsN] at hbit
  have HALL := Lib.hid hall
  have HBIT := Lib.hid hbit
  clear hall hbit hsN
  go_enter Tryz.func32, Tryz.ntmps32
  go_wp2
  go_loopw [2, 4] (fun v i wr => ∃ k : Nat, i = .int .i64 k ∧ k ≤ 4 ∧ OI w.heap.size wr v (risTo s k) ∧ Below w.heap.size w wr) (fun _ i _ => 4 - (intOf i).toNat)
  case atStart => exact ⟨0, rfl, Nat.zero_le _, OI.nil _ _, Below.refl _ _⟩
  case round =>
    obtain ⟨k, rfl, hk, ho, hb⟩ := hrel
    rename World => wr
    have HO := Lib.hid ho
    have HB := Lib.hid hb
    have hz := hb.size
    clear ho hb
    by_cases hlt : k < 4
    · have hbt := HBIT.out ⟨k, hlt⟩
      dsimp only at hbt
      have hln := risTo_len s k
      by_cases hone : s / 2 ^ k % 2 = 1
      · have HS := Lib.hid (show risTo s (k + 1) = risTo s k ++ [(k : Int)] by rw [risTo, if_pos hone])
        rw [decide_eq_true hone] at hbt
        obtain ⟨v', w', hrun, ho', hb'⟩ := oi_append (k : Int) HO.out (by constructor <;> omega) (by omega) hz
        have Hrun := Lib.hid hrun
        have HO' := Lib.hid ho'
        have HB' := Lib.hid (HB.out.trans hb')
        clear hrun ho' hb' hone
        rcases (by omega : k = 0 ∨ k = 1 ∨ k = 2 ∨ k = 3) with rfl | rfl | rfl | rfl
        all_goals
          simp only [Int.reducePow, Int.pow_zero] at hbt
          go_wp2_with (at_builtin; have _t := Hrun; refine wpList_append_eq rfl (.tmp 12) (.tmp 14) 22 rfl _ _ _ _ rfl rfl Hrun.out ?_; clear _t Hrun)
          go_roundw
          case rel => first | exact ⟨1, rfl, by omega, by rw [HS.out]; exact HO'.out, HB'.out⟩ | exact ⟨2, rfl, by omega, by rw [HS.out]; exact HO'.out, HB'.out⟩ | exact ⟨3, rfl, by omega, by rw [HS.out]; exact HO'.out, HB'.out⟩ | exact ⟨4, rfl, by omega, by rw [HS.out]; exact HO'.out, HB'.out⟩
          case measure => simp [intOf]
      · have HS := Lib.hid (show risTo s (k + 1) = risTo s k by rw [risTo, if_neg hone])
        rw [decide_eq_false hone] at hbt
        clear hone
        rcases (by omega : k = 0 ∨ k = 1 ∨ k = 2 ∨ k = 3) with rfl | rfl | rfl | rfl
        all_goals
          simp only [Int.reducePow, Int.pow_zero] at hbt
          go_wp2
          go_roundw
          case rel => first | exact ⟨1, rfl, by omega, by rw [HS.out]; exact HO.out, HB.out⟩ | exact ⟨2, rfl, by omega, by rw [HS.out]; exact HO.out, HB.out⟩ | exact ⟨3, rfl, by omega, by rw [HS.out]; exact HO.out, HB.out⟩ | exact ⟨4, rfl, by omega, by rw [HS.out]; exact HO.out, HB.out⟩
          case measure => simp [intOf]
    · obtain rfl : k = 4 := by omega
      have ho := HO.out
      rw [HALL.out] at ho
      have HO2 := Lib.hid ho
      clear ho
      go_wp2
      go_ret
      exact ⟨_, rfl, HO2.out, HB.out⟩
theorem make_bys (N : Nat) (hN : N ≤ 1000) (w : World) : (Instr.makeSlice 65 (.int .i64 (N : Int)) (.int .i64 (N : Int))).run Tryz.prog w = .ok (.slice (some ⟨w.heap.size, 0, none⟩) N N) (w.alloc (.cells (madeCells #[.slice none 0 0] N) 22)) := by
  obtain ⟨i, hi, hz, hs, hb⟩ := info_parts infoS1
  have hr := run_make (P := Tryz.prog) w 65 22 i (.slice none 0 0) Tryz.underlying65 hi hz .i64 .i64 N N (by omega) (by omega) (by rw [hb]; omega) (by omega)
  simpa [hs, Value.cells] using hr
set_option maxRecDepth 100000 in
set_option maxHeartbeats 1000000 in
theorem newS_any (d : Nat) (w : World) (h1 : 1 ≤ d) (h4 : d ≤ 4) (hT : Tab w) (hw1 : 1 < w.heap.size) :
    Calls Tryz.prog 31 #[.int .i64 d] w fun e w' => ∃ g us, e = .returned (.slice (some ⟨g, 0, none⟩) (2 ^ d) (2 ^ d)) ∧ OM w.heap.size w' (.slice (some ⟨g, 0, none⟩) (2 ^ d) (2 ^ d)) (List.replicate (2 ^ d) []) us ∧ w.heap.size ≤ g ∧ Below w.heap.size w w' := by
  have HS := Lib.hid (sets_any d w h1 h4 hT hw1)
  obtain ⟨N, hN⟩ : ∃ N, N = 2 ^ d := ⟨_, rfl⟩
  have n16 := pow_16 d h4
  rw [← hN] at HS n16 ⊢
  have hmk := fun W => make_bys N (by omega) W
  clear hN hT
  go_enter Tryz.func31, Tryz.ntmps31
  go_wp2_with fail
  refine HS.out.mono ?_
  rintro e w1 ⟨g, rfl, -, hb1, -⟩
  have HB1 := Lib.hid hb1
  have hz := hb1.size
  have hk := hmk w1
  have hom := om_made w1 N (by omega)
  have HOM := Lib.hid (⟨own_mono hom.own hz, fun j u r a b => (hom.row j u r a b).mono hz, hom.ap⟩ : OM w.heap.size _ _ _ _)
  clear hb1 hmk hom
  go_wp2
  go_ret
  exact ⟨w1.heap.size, _, rfl, HOM.out, hz, HB1.out.alloc hz _⟩
end Go.Proofs.YtjllmladhjbnaaaGreatDoor
/- Package sorts: rows in the order of sets. -/
namespace Go.Proofs.YtjllmladhjbnaaaGreatDoor
open Go.RowKit Go.Shelf
attribute [local go_sem] Oper.semAt_some
/-- The header of a row is appended. -/
theorem row_append {B : Nat} {w : World} {v : Value} {us : List Value} {P : Option Addr} {m c : Nat} (h : w.ownsRow B 22 1 v us.length us) (hn : us.length ≤ 1000) (hB : B ≤ w.heap.size) :
    ∃ v' w', (Builtin.append_ #[35, 35] 35 #[v, .slice (some ⟨w.heap.size, 0, none⟩) 1 1]).run Tryz.prog (w.alloc (.cells #[.slice P m c] 22)) = .ok v' w' ∧ w'.ownsRow B 22 1 v' (us ++ [Value.slice P m c]).length (us ++ [Value.slice P m c]) ∧ Below B w w' := by
  obtain ⟨i0, hi, hz0, hz1, hz2⟩ := info_parts infoS1
  obtain ⟨v', w', hrun, ho, hgr, _, _⟩ := run_append_own_at (P := Tryz.prog) (w.alloc (.cells #[.slice P m c] 22)) B 35 35 22 i0 _ 1 24 Tryz.underlying35 hi hz0 hz1 hz2 rfl (by omega) v us.length us (h.alloc _)
    ⟨w.heap.size, 0, none⟩ 1 1 [.slice P m c] rfl (fun j x hx => by
      rw [add0, show (w.alloc (.cells #[.slice P m c] 22)).cell? ⟨w.heap.size, j, none⟩ = #[Value.slice P m c][j]? from cell_of_row _ _ _ _ 22 (0, 0) (heap_alloc_new w _)]
      simpa using hx)
    (by intro x hx; simp at hx; subst hx; rfl) (by simp [maxLen]; omega) (by omega) (by simp; omega)
  exact ⟨v', w', hrun, by rw [List.length_append]; exact ho, ((Below.refl B w).alloc hB _).grown hgr (by simp; omega) (fun k e => (h.lt k e).1)⟩
/-- Rows that read as M, with their rooms. -/
def MatC (w : World) (A : Option Addr) (n : Nat) (M : List (List Int)) : Prop :=
  M.length = n ∧ (0 < n → ∃ ad, A = some ad ∧ ∀ (j : Nat) (r : List Int), M[j]? = some r → ∃ B c, w.cell? (ad.add j) = some (.slice B r.length c) ∧ r.length ≤ c ∧ Nums .i64 w B r.length r)
theorem MatC.mat {w : World} {A : Option Addr} {n : Nat} {M : List (List Int)} (h : MatC w A n M) : Mat w A n M :=
  ⟨h.1, fun hn => by obtain ⟨ad, ha, hc⟩ := h.2 hn; exact ⟨ad, ha, fun j r hr => by obtain ⟨B, c, h1, _, h2⟩ := hc j r hr; exact ⟨B, c, h1, h2⟩⟩⟩
theorem MatC.keep {w w' : World} {A : Option Addr} {n : Nat} {M : List (List Int)} (h : MatC w A n M) (hk : Keeps w w') : MatC w' A n M :=
  ⟨h.1, fun hn => by obtain ⟨ad, ha, hc⟩ := h.2 hn; exact ⟨ad, ha, fun j r hr => by obtain ⟨B, c, h1, h3, h2⟩ := hc j r hr; exact ⟨B, c, hk _ _ h1, h3, h2.keep hk⟩⟩⟩
def rowsOf (d : Nat) (M : List (List Int)) : List (List Int) := (setsL d).map fun s => M.getD s.toNat []
def usOf (d : Nat) (us : List Value) (k : Nat) : List Value := ((setsL d).take k).map fun s => us.getD s.toNat undef
theorem usOf_len (d : Nat) (us : List Value) (k : Nat) (h : k ≤ (setsL d).length) : (usOf d us k).length = k := by
  unfold usOf; rw [List.length_map, List.length_take]; omega
set_option maxRecDepth 100000 in
set_option maxHeartbeats 4000000 in
theorem listed_any (d N go co B : Nat) (M : List (List Int)) (us : List Value) (w : World) (h1 : 1 ≤ d) (h4 : d ≤ 4) (hN : N = 2 ^ d) (h : OM B w (.slice (some ⟨go, 0, none⟩) N co) M us) (hML : M.length = N) (hT : Tab w) (hw1 : 1 < w.heap.size) :
    Calls Tryz.prog 35 #[.slice (some ⟨go, 0, none⟩) N co, .int .i64 d] w fun e w' => ∃ A c, e = .returned (.slice A N c) ∧ MatC w' A N (rowsOf d M) ∧ Below w.heap.size w w' := by
  have HS := Lib.hid (sets_any d w h1 h4 hT hw1)
  have hsl := setsL_len d h1 h4
  have n16 := pow_16 d h4
  rw [← hN] at HS hsl n16
  have HO := Lib.hid h
  have HML := Lib.hid hML
  have HSL := Lib.hid hsl
  have hfb : fullB d = (N : Int) - 1 := by unfold fullB; rw [hN]; push_cast; rfl
  have HFB := Lib.hid hfb
  clear h hML hT hN hsl hfb
  go_enter Tryz.func35, Tryz.ntmps35
  go_wp2_with fail
  refine HS.out.mono ?_
  rintro e w2 ⟨g, rfl, hn, hb2, -⟩
  have HNS := Lib.hid hn
  have HB2 := Lib.hid hb2
  have HO2 := Lib.hid (HO.out.below hb2)
  clear hn hb2
  go_wp2_with fail
  go_loopw [4, 10] (fun v i wr => ∃ k : Nat, i = .int .i64 k ∧ k ≤ N ∧ wr.ownsRow w2.heap.size 22 1 v (usOf d us k).length (usOf d us k) ∧ Below w2.heap.size w2 wr) (fun _ i _ => N - (intOf i).toNat)
  case atStart => exact ⟨0, rfl, Nat.zero_le _, World.ownsRow_nil _ _ _ _, Below.refl _ _⟩
  case round =>
    obtain ⟨k, rfl, hk, ho, hb⟩ := hrel
    rename World => wr
    have HOr := Lib.hid ho
    have HB := Lib.hid hb
    have hz := hb.size
    clear ho hb
    by_cases hlt : k < N
    · have kw := Keeps.of_below HB.out
      obtain ⟨ad, s, e1, hs, -, hcs⟩ := (HNS.out.keep kw).at_ hlt
      injection e1 with e1
      subst e1
      rw [add0] at hcs
      obtain ⟨s0, s1⟩ := sets_bd d h1 h4 s (List.mem_of_getElem? hs)
      rw [HFB.out] at s1
      obtain ⟨sN, hsN⟩ : ∃ sN : Nat, s = (sN : Int) := ⟨s.toNat, by omega⟩
      obtain ⟨r, hr⟩ : ∃ r, M[sN]? = some r := ⟨_, List.getElem?_eq_getElem (by rw [HML.out]; omega)⟩
      obtain ⟨g', c', u, ev, -, -, hu, hcu, -, hru, -⟩ := HO2.out.at_ hr
      injection ev with ev _ _
      injection ev with ev
      injection ev with ev
      subst ev
      obtain ⟨P, cu, rfl, -, -, -, -⟩ := hru.form
      have hcu2 := kw _ _ hcu
      have hln : (usOf d us k).length = k := usOf_len d us k (by rw [HSL.out]; omega)
      have hnx : usOf d us (k + 1) = usOf d us k ++ [Value.slice P r.length cu] := by
        unfold usOf
        rw [List.take_add_one, hs, List.map_append]
        congr 1
        simp only [Option.toList_some, List.map_cons, List.map_nil]
        rw [hsN, Int.toNat_natCast, List.getD_eq_getElem?_getD, hu]; rfl
      obtain ⟨v', w', hrun, ho', hb'⟩ := row_append (P := P) (m := r.length) (c := cu) HOr.out (by omega) hz
      rw [← hnx] at ho'
      have HO' := Lib.hid ho'
      have HB' := Lib.hid (HB.out.trans hb')
      have Hrun := Lib.hid hrun
      have k0 : (0 : Int) ≤ (k : Int) := by omega
      have k1 : (k : Int) < (N : Int) := by omega
      have q0 : (0 : Int) ≤ (sN : Int) := by omega
      have q1 : (sN : Int) < (N : Int) := by omega
      rw [hsN] at hcs
      clear hs hsN hr hcu hu hru hln hnx hrun ho' hb' kw s0 s1
      go_wp2_with (at_builtin; have _t := Hrun; refine wpList_append_eq rfl (.tmp 14) (.tmp 19) 35 rfl _ _ _ _ rfl rfl Hrun.out ?_; clear _t Hrun)
      go_roundw
      case rel => exact ⟨_, _, _, ⟨k + 1, rfl, by omega, HO'.out, HB'.out⟩, rfl, rfl, by go_num⟩
      case measure => simp [intOf]; omega
    · obtain rfl : k = N := by omega
      have ho := HOr.out
      obtain ⟨A, c, hv, -, -, h3⟩ := own_form ho
      have hln : (usOf d us k).length = k := usOf_len d us k (by rw [HSL.out]; omega)
      rw [hln] at hv h3
      subst hv
      have hmat : MatC wr A k (rowsOf d M) := by
        refine ⟨by unfold rowsOf; rw [List.length_map]; exact HSL.out, fun hpos => ?_⟩
        obtain ⟨g3, e3, -, hc3⟩ := h3 hpos
        refine ⟨_, e3, fun j r hr => ?_⟩
        unfold rowsOf at hr
        rw [List.getElem?_map] at hr
        cases hs : (setsL d)[j]? with
        | none => rw [hs] at hr; simp at hr
        | some s =>
          rw [hs] at hr
          simp only [Option.map_some, Option.some.injEq] at hr
          obtain ⟨s0, s1⟩ := sets_bd d h1 h4 s (List.mem_of_getElem? hs)
          rw [HFB.out] at s1
          obtain ⟨r2, hr2⟩ : ∃ r, M[s.toNat]? = some r := ⟨_, List.getElem?_eq_getElem (by rw [HML.out]; omega)⟩
          rw [List.getD_eq_getElem?_getD, hr2] at hr
          simp only [Option.getD_some] at hr
          subst hr
          obtain ⟨g', c', u, ev, -, -, hu, hcu, -, hru, -⟩ := HO2.out.at_ hr2
          obtain ⟨P, cu, rfl, hlc, -, hnu, -⟩ := hru.form
          have hjk : j < k := by have := (List.getElem?_eq_some_iff.1 hs).1; rw [HSL.out] at this; exact this
          have huj : (usOf d us k)[j]? = some (.slice P r2.length cu) := by
            unfold usOf
            rw [List.getElem?_map, List.getElem?_take, if_pos hjk, hs]
            simp only [Option.map_some]
            rw [List.getD_eq_getElem?_getD, hu]; rfl
          rw [add0]
          exact ⟨P, cu, hc3 j _ huj, hlc, hnu.keep (Keeps.of_below HB.out)⟩
      have HMT := Lib.hid hmat
      have HBf := Lib.hid (HB2.out.trans (HB.out.mono HB2.out.size))
      clear ho h3 hmat hln
      go_wp2
      go_ret
      exact ⟨_, _, rfl, HMT.out, HBf.out⟩
end Go.Proofs.YtjllmladhjbnaaaGreatDoor
