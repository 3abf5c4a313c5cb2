import Derived.Test.YtejjbbomkedpcaaRec7
import Derived.Test.YtejjbbomkedpcaaBase2
namespace Go.Proofs.Ytejjbbomkedpcaa
open Go.RowKit
/-- What takeHead leaves. -/
def HeadPost (xs : List Int) (w : World) (e : Ending) (w' : World) : Prop :=
  Below w.heap.size w w' ∧ ((headOk xs = false ∧ e = .returned (.tuple #[.agg #[.slice none 0 0, .int .i64 0], .int .i64 0, .bool false])) ∨
    (headOk xs = true ∧ ∃ g, e = .returned (.tuple #[.agg #[.slice (some ⟨g, 0, none⟩) (hDims xs) (hDims xs), .int .i64 (hMeas xs)], .int .i64 (hRows xs), .bool true]) ∧ Arr .i64 3 w' g (hCards xs) ∧ w.heap.size ≤ g))
set_option maxHeartbeats 4000000 in
theorem takeHead_any (A : Option Addr) (n c : Nat) (xs : List Int) (w : World) (hx : Nums .u8 w A n xs) :
    Calls Try.prog 17 #[.slice A n c] w (HeadPost xs w) := by
  obtain ⟨w0, hw0⟩ : ∃ w0, w0 = (w.alloc (.cells #[.slice none 0 0, .int .i64 0] 24)).alloc (.cells #[.int .u8 0, .int .u8 0, .int .u8 0, .int .u8 0, .int .u8 0, .int .u8 0, .int .u8 0, .int .u8 0, .int .u8 0, .int .u8 0, .int .u8 0, .int .u8 0] 53) := ⟨_, rfl⟩
  have ha0 : Arr .u8 53 w0 (w.heap.size + 1) (List.replicate 12 0) := by
    rw [hw0]
    have := heap_alloc_new (w.alloc (.cells #[.slice none 0 0, .int .i64 0] 24)) (.cells #[.int .u8 0, .int .u8 0, .int .u8 0, .int .u8 0, .int .u8 0, .int .u8 0, .int .u8 0, .int .u8 0, .int .u8 0, .int .u8 0, .int .u8 0, .int .u8 0] 53)
    simpa [Arr] using this
  obtain ⟨w1, hcp, ha1, ho1, hz1⟩ := copy_nums (P := Try.prog) 39 39 3 5 Try.underlying39 (by kernel_rfl) w0 (w.heap.size + 1) n c (List.replicate 12 0) xs A ha0 (hx.keep (by rw [hw0]; exact ((Keeps.refl w).alloc _).alloc _))
  rw [List.length_replicate] at hcp ha1
  have ha1 : Arr .u8 53 w1 (w.heap.size + 1) (pad xs) := ha1
  have hok := pad_ok hx.ok
  obtain ⟨h0, h1, h2, h3, h4, h5, h6, h7, h8, h9, h10, h11, hp⟩ := list12 (pad_len xs)
  have hpok := hok
  have hpa := ha1
  rw [hp] at ha1 hok
  have hz : w1.heap.size = w.heap.size + 1 + 1 := by rw [hz1, hw0]; simp
  have hnum := ha1.nums hok
  have hcv := conv_str (P := Try.prog) 39 9 5 Try.underlying39 Try.underlying5 Try.underlying9 w1 (some ⟨w.heap.size + 1, 0, none⟩) 4 12 [h0, h1, h2, h3] (hnum.take 4 (by simp))
  rw [hw0] at hcp
  have Ho1 := Lib.hid ho1
  have Hw0 := Lib.hid hw0
  have Hp := Lib.hid hp
  have Hz := Lib.hid hz
  have Hpa := Lib.hid hpa
  have Hpok := Lib.hid hpok
  have Hnum := Lib.hid hnum
  have Hok := Lib.hid hok
  clear ho1 hw0 hp hz ha1 ha0 hz1 hnum hok hpa hpok
  have hmk := strOf_beq (xs := [h0, h1, h2, h3]) (ys := [67, 85, 66, 49]) (fun x hx => Hok.out x (by simp at hx ⊢; omega)) (by intro x hx; simp at hx; omega)
  have hmm : (strOf [67, 85, 66, 49]).toList = [67, 85, 66, 49] := by rw [strOf_list]; rfl
  rw [hmm] at hmk
  clear hmm
  have hbx : Box2 24 w1 w.heap.size (.slice none 0 0) (.int .i64 0) := by
    refine Box2.only ?_ Ho1.out (by omega)
    rw [Hw0.out]
    exact (Box2.new w _ _ _).alloc _
  have b0 := hbx.cell0
  have b1 := hbx.cell1
  have bf := hbx.frozen
  have hB1 : Below w.heap.size w w1 := by
    refine Below.trans ?_ (Ho1.out.below (B := w.heap.size) (by omega) (by rw [Hw0.out]; simp; omega))
    rw [Hw0.out]
    exact ((Below.refl _ _).alloc (Nat.le_refl _) _).alloc (by simp) _
  have Hbx := Lib.hid hbx
  have HB1 := Lib.hid hB1
  clear hbx hB1
  by_cases hmark : [h0, h1, h2, h3] = [67, 85, 66, 49]
  · have Hmark := Lib.hid (show hMark xs = true by rw [hMark, Hp.out]; simpa using hmark)
    rw [decide_eq_true hmark] at hmk
    clear hmark
    go_enter Try.func17, Try.ntmps17
    go_wp2_with fail
    have hN : ∀ W, Arr .u8 53 W (w.heap.size + 1) (pad xs) → Nums .u8 W (some ⟨w.heap.size + 1, 4, none⟩) 8 ((pad xs).drop 4) := fun W hW => by
      have := hW.byteTail Hpok.out 4 (by rw [pad_len]; omega)
      rwa [pad_len] at this
    have HN := Lib.hid hN
    clear hN
    refine (take8 _ 8 8 _ w1 (HN.out _ Hpa.out) (by omega) (by omega) (by omega)).mono ?_
    rintro e w2 ⟨A1, rfl, ht1, q1, rfl⟩
    have hd0 : 0 ≤ beVal (((pad xs).drop 4).take 1) ∧ beVal (((pad xs).drop 4).take 1) ≤ 255 := by
      rw [Hp.out]
      simp only [List.drop_succ_cons, List.drop_zero, List.take_succ_cons, List.take_zero, beVal1]
      exact Hok.out _ (by simp)
    obtain ⟨d, hd⟩ : ∃ d : Nat, d = hDims xs := ⟨_, rfl⟩
    have hdv : beVal (((pad xs).drop 4).take 1) = (d : Int) := by rw [hd, hDims]; omega
    rw [hdv] at hd0 ⊢
    have Hd := Lib.hid hd
    have Ht1 := Lib.hid ht1
    clear ht1 hd hdv hcp hcv hmk b0 b1 bf
    by_cases hd4 : d ≤ 4
    · go_wp2_with fail
      refine (takeAll8 A1 7 7 d _ _ (Ht1.out _ (HN.out _ (Hpa.out.drewN q1))) (by omega) (by omega) (by omega) (by omega)).mono ?_
      rintro e w3 ⟨g, A2, rfl, harr, hg, ht2, hb3⟩
      rw [Nat.one_mul] at ht2 ⊢
      have hbx3 := (Hbx.out.drewN q1).below hb3 (Hbx.out.drewN q1).lt
      have hpa3 := (Hpa.out.drewN q1).below hb3 (Hpa.out.drewN q1).lt
      have hB3 := HB1.out.trans ((below_drewN (Below.refl _ w1) q1).trans (hb3.mono (by have := HB1.out.size; simpa using this)))
      have hg' : w.heap.size + 1 + 1 ≤ g := by have := Hz.out; simp only [World.heap_drewN] at hg; omega
      have c0 := hbx3.cell0
      have c1 := hbx3.cell1
      have cf := hbx3.frozen
      have hbx4 := hbx3.set0 (.slice (some ⟨g, 0, none⟩) d d)
      have hpa4 := hpa3.only (only_setCell w.heap.size w3 0 (.slice (some ⟨g, 0, none⟩) d d)) (by omega)
      have harr4 := harr.only (only_setCell w.heap.size w3 0 (.slice (some ⟨g, 0, none⟩) d d)) (by omega)
      have hB4 := below_setCell hB3 (Nat.le_refl _) 0 (.slice (some ⟨g, 0, none⟩) d d)
      have HN2 := Lib.hid (fun W (hW : Arr .u8 53 W (w.heap.size + 1) (pad xs)) => ht2 W (Ht1.out W (HN.out W hW)))
      obtain ⟨w4, hw4⟩ : ∃ w4, w4 = w3.setCell ⟨w.heap.size, 0, none⟩ (.slice (some ⟨g, 0, none⟩) d d) := ⟨_, rfl⟩
      rw [← hw4] at hbx4 hpa4 harr4 hB4
      have Hw4 := Lib.hid hw4
      have Harr4 := Lib.hid harr4
      have Hpa4 := Lib.hid hpa4
      have HB4 := Lib.hid hB4
      have Hbx4 := Lib.hid hbx4
      clear harr ht2 hb3 hbx3 hg hpa3 hB3 hbx4 hpa4 harr4 hB4 hw4
      go_wp2_with fail
      rw [← Hw4.out]
      clear c0 c1 cf
      refine (take8 A2 (7 - d) (7 - d) _ w4 (HN2.out _ Hpa4.out) (by omega) (by omega) (by omega)).mono ?_
      rintro e w5 ⟨A3, rfl, ht3, q2, rfl⟩
      rw [show (((pad xs).drop 4).drop 1).drop d = (((pad xs).drop 4).drop 1).drop (hDims xs) from by rw [Hd.out]] at ht3 ⊢
      rw [show beVal (((((pad xs).drop 4).drop 1).drop (hDims xs)).take 1) = hMeas xs from rfl]
      obtain ⟨me, hme⟩ : ∃ me, me = hMeas xs := ⟨_, rfl⟩
      rw [← hme]
      have HN3 := Lib.hid (fun W (hW : Arr .u8 53 W (w.heap.size + 1) (pad xs)) => ht3 W (by rw [← Hd.out]; exact HN2.out W hW))
      have Hme := Lib.hid hme
      have hbx5 := (Hbx4.out.drewN q2).set1 (.int .i64 me)
      have hpa5 := (Hpa4.out.drewN q2).only (only_setCell w.heap.size (w4.drewN q2) 1 (.int .i64 me)) (by omega)
      have harr5 := (Harr4.out.drewN q2).only (only_setCell w.heap.size (w4.drewN q2) 1 (.int .i64 me)) (by omega)
      have hB5 := below_setCell (below_drewN HB4.out q2) (Nat.le_refl _) 1 (.int .i64 me)
      have c0 := (Hbx4.out).cell0
      have c1 := (Hbx4.out).cell1
      have cf := (Hbx4.out).frozen
      obtain ⟨w5, hw5⟩ : ∃ w5, w5 = (w4.drewN q2).setCell ⟨w.heap.size, 1, none⟩ (.int .i64 me) := ⟨_, rfl⟩
      rw [← hw5] at hbx5 hpa5 harr5 hB5
      have Hw5 := Lib.hid hw5
      have Harr5 := Lib.hid harr5
      have Hpa5 := Lib.hid hpa5
      have HB5 := Lib.hid hB5
      have Hbx5 := Lib.hid hbx5
      clear ht3 hme hbx5 hpa5 harr5 hB5 hw5
      go_wp2_with fail
      rw [← Hw5.out]
      clear c0 c1 cf
      refine (take16 A3 (7 - d - 1) (7 - d - 1) _ w5 (HN3.out _ Hpa5.out) (by omega) (by omega) (by omega)).mono ?_
      rintro e w6 ⟨A4, rfl, ht4, q3, rfl⟩
      rw [show beVal ((((((pad xs).drop 4).drop 1).drop (hDims xs)).drop 1).take 2) = hRows xs from rfl]
      obtain ⟨r, hr⟩ : ∃ r, r = hRows xs := ⟨_, rfl⟩
      rw [← hr]
      have Hr := Lib.hid hr
      have c0 := (Hbx5.out).cell0
      have c1 := (Hbx5.out).cell1
      have cf := (Hbx5.out).frozen
      clear ht4 hr
      go_wp2_with fail
      have hbm := hMeas_bd (xs := xs) hx.ok
      have hbr := hRows_bd (xs := xs) hx.ok
      rw [← Hme.out] at hbm
      rw [← Hr.out] at hbr
      have hcd : chunks id 1 d (((pad xs).drop 4).drop 1) = hCards xs := by rw [hCards, Hd.out]
      have hcb := hCards_bytes (xs := xs) hx.ok
      have hcl := hCards_len xs
      rw [← Hd.out] at hcl
      have harr6 := Harr5.out.drewN q3
      rw [hcd] at harr6
      have hnum6 := harr6.nums (fun x hx => by have := hcb x hx; simp only [inK]; omega)
      rw [hcl] at hnum6
      have Hcl := Lib.hid hcl
      have Harr6 := Lib.hid harr6
      obtain ⟨bm1, bm2⟩ := hbm
      obtain ⟨br1, br2⟩ := hbr
      clear hcd hcb hcl harr6
      cases hck : checkB (hCards xs) me with
      | true =>
        have Hck := Lib.hid hck
        clear hck
        refine (Check_any _ d d _ me _ hnum6 (by omega) ⟨by omega, by omega⟩).mono ?_
        rintro e w7 ⟨rfl, hb7⟩
        rw [Hck.out]
        have hbx7 := (Hbx5.out.drewN q3).below hb7 (Hbx5.out.drewN q3).lt
        have harr7 := Harr6.out.below hb7 Harr6.out.lt
        have hB7 := (below_drewN HB5.out q3).trans (hb7.mono (by have := HB5.out.size; simpa using this))
        have c0 := hbx7.cell0
        have c1 := hbx7.cell1
        have cf := hbx7.frozen
        clear hb7 hnum6
        by_cases hr3 : r ≤ 300
        · go_wp2
          have hbox := (hbx7.set0 (.slice (some ⟨g, 0, none⟩) d d)).set1 (.int .i64 me)
          have hbel := below_setCell (below_setCell hB7 (Nat.le_refl _) 0 (.slice (some ⟨g, 0, none⟩) d d)) (Nat.le_refl _) 1 (.int .i64 me)
          have harr8 := (harr7.only (only_setCell w.heap.size w7 0 (.slice (some ⟨g, 0, none⟩) d d)) (by omega)).only (only_setCell w.heap.size _ 1 (.int .i64 me)) (by omega)
          generalize (w7.setCell _ _).setCell _ _ = W at hbox hbel harr8 ⊢
          have hh : headOk xs = true := by
            rw [headOk, Hmark.out, ← Hd.out, ← Hme.out, ← Hr.out, Hck.out, decide_eq_true hr3, decide_eq_true hd4]; rfl
          refine bodyPost_ret (v := .tuple #[.agg #[.slice (some ⟨g, 0, none⟩) d d, .int .i64 me], .int .i64 r, .bool true]) (by simp [results, Try.results17, go_sem, hbox.cell0, hbox.cell1]) rfl ⟨hbel, .inr ⟨hh, g, ?_, harr8, by omega⟩⟩
          rw [← Hd.out, ← Hme.out, ← Hr.out]
        · go_wp2
          have hbox := (hbx7.set0 (.slice none 0 0)).set1 (.int .i64 0)
          have hbel := below_setCell (below_setCell hB7 (Nat.le_refl _) 0 (.slice none 0 0)) (Nat.le_refl _) 1 (.int .i64 0)
          generalize (w7.setCell _ _).setCell _ _ = W at hbox hbel ⊢
          have hh : headOk xs = false := by
            rw [headOk, ← Hr.out, decide_eq_false (by omega : ¬ r ≤ 300), Bool.and_false, Bool.and_false, Bool.and_false]
          exact bodyPost_ret (v := .tuple #[.agg #[.slice none 0 0, .int .i64 0], .int .i64 0, .bool false]) (by simp [results, Try.results17, go_sem, hbox.cell0, hbox.cell1]) rfl ⟨hbel, .inl ⟨hh, rfl⟩⟩
      | false =>
        have Hck := Lib.hid hck
        clear hck
        refine (Check_any _ d d _ me _ hnum6 (by omega) ⟨by omega, by omega⟩).mono ?_
        rintro e w7 ⟨rfl, hb7⟩
        rw [Hck.out]
        have hbx7 := (Hbx5.out.drewN q3).below hb7 (Hbx5.out.drewN q3).lt
        have hB7 := (below_drewN HB5.out q3).trans (hb7.mono (by have := HB5.out.size; simpa using this))
        have c0 := hbx7.cell0
        have c1 := hbx7.cell1
        have cf := hbx7.frozen
        clear hb7 hnum6
        go_wp2
        have hbox := (hbx7.set0 (.slice none 0 0)).set1 (.int .i64 0)
        have hbel := below_setCell (below_setCell hB7 (Nat.le_refl _) 0 (.slice none 0 0)) (Nat.le_refl _) 1 (.int .i64 0)
        generalize (w7.setCell _ _).setCell _ _ = W at hbox hbel ⊢
        have hh : headOk xs = false := by
          rw [headOk, ← Hme.out, Hck.out, Bool.false_and, Bool.and_false, Bool.and_false]
        exact bodyPost_ret (v := .tuple #[.agg #[.slice none 0 0, .int .i64 0], .int .i64 0, .bool false]) (by simp [results, Try.results17, go_sem, hbox.cell0, hbox.cell1]) rfl ⟨hbel, .inl ⟨hh, rfl⟩⟩
    · have c0 := (Hbx.out.drewN q1).cell0
      have c1 := (Hbx.out.drewN q1).cell1
      have cf := (Hbx.out.drewN q1).frozen
      go_wp2
      have hbox := ((Hbx.out.drewN q1).set0 (.slice none 0 0)).set1 (.int .i64 0)
      have hbel := below_setCell (below_setCell (below_drewN HB1.out q1) (Nat.le_refl _) 0 (.slice none 0 0)) (Nat.le_refl _) 1 (.int .i64 0)
      generalize ((w1.drewN q1).setCell _ _).setCell _ _ = W at hbox hbel ⊢
      have hh : headOk xs = false := by
        rw [headOk, ← Hd.out, decide_eq_false hd4, Bool.false_and, Bool.and_false]
      exact bodyPost_ret (v := .tuple #[.agg #[.slice none 0 0, .int .i64 0], .int .i64 0, .bool false]) (by simp [results, Try.results17, go_sem, hbox.cell0, hbox.cell1]) rfl ⟨hbel, .inl ⟨hh, rfl⟩⟩
  · have Hmark := Lib.hid (show headOk xs = false by rw [headOk, show hMark xs = false from by rw [hMark, Hp.out]; exact decide_eq_false hmark]; rfl)
    rw [decide_eq_false hmark] at hmk
    clear hmark
    go_enter Try.func17, Try.ntmps17
    go_wp2
    have hbox := (Hbx.out.set0 (.slice none 0 0)).set1 (.int .i64 0)
    have hbel := below_setCell (below_setCell HB1.out (Nat.le_refl _) 0 (.slice none 0 0)) (Nat.le_refl _) 1 (.int .i64 0)
    generalize (w1.setCell _ _).setCell _ _ = W at hbox hbel ⊢
    exact bodyPost_ret (v := .tuple #[.agg #[.slice none 0 0, .int .i64 0], .int .i64 0, .bool false]) (by simp [results, Try.results17, go_sem, hbox.cell0, hbox.cell1]) rfl ⟨hbel, .inl ⟨Hmark.out, rfl⟩⟩
end Go.Proofs.Ytejjbbomkedpcaa
