/- The reference's put. -/
import Derived.Test.YtgkgkekgmcldmaaRo4
namespace Go.Proofs.Ytgkgkekgmcldmaa
open Go.RowKit
theorem insD {w : World} {q c : Nat} {σ : St} {M A : Nat → Prop} {fv lv : Value} {rs : List RFv} {r : RFv} {f0 : SF} {P1 P2 : Option Addr} {n1 d1 n2 d2 k : Nat} (h : RefIn w q σ c M A fv lv rs) (hr : ROk A w r) (hf : r.f.ok) (hn : nameOk r.n = true) (hff : fnd σ.fs r.n = some f0) (hk : k = posF σ.fs r.n) (hvb : r.vb = .slice P1 n1 d1) (hvo : r.vo = .slice P2 n2 d2) :
    ∃ g cap, fv = .slice (some ⟨g, 0, none⟩) rs.length cap ∧ k < rs.length ∧ rs.length ≤ cap ∧ ∀ W, Below w.heap.size w W → (∃ a b c d e, W.cell? ⟨g, k * 5, none⟩ = some a ∧ W.cell? ⟨g, k * 5 + 1, none⟩ = some b ∧ W.cell? ⟨g, k * 5 + 2, none⟩ = some c ∧ W.cell? ⟨g, k * 5 + 3, none⟩ = some d ∧ W.cell? ⟨g, k * 5 + 4, none⟩ = some e) ∧ (∀ j, W.frozen? ⟨g, j, none⟩ = false) ∧
      RefAt (((((W.setCell ⟨g, k * 5, none⟩ (.string (str r.n))).setCell ⟨g, k * 5 + 1, none⟩ (.slice P1 n1 d1)).setCell ⟨g, k * 5 + 2, none⟩ (.slice P2 n2 d2)).setCell ⟨g, k * 5 + 3, none⟩ (.bool (decide (r.f.st = 2)))).setCell ⟨g, k * 5 + 4, none⟩ (.bool r.had)) q (σ.with (putF σ.fs r.n r.f)) (c + 1) (Grw M w (((((W.setCell ⟨g, k * 5, none⟩ (.string (str r.n))).setCell ⟨g, k * 5 + 1, none⟩ (.slice P1 n1 d1)).setCell ⟨g, k * 5 + 2, none⟩ (.slice P2 n2 d2)).setCell ⟨g, k * 5 + 3, none⟩ (.bool (decide (r.f.st = 2)))).setCell ⟨g, k * 5 + 4, none⟩ (.bool r.had))) (Grw A w (((((W.setCell ⟨g, k * 5, none⟩ (.string (str r.n))).setCell ⟨g, k * 5 + 1, none⟩ (.slice P1 n1 d1)).setCell ⟨g, k * 5 + 2, none⟩ (.slice P2 n2 d2)).setCell ⟨g, k * 5 + 3, none⟩ (.bool (decide (r.f.st = 2)))).setCell ⟨g, k * 5 + 4, none⟩ (.bool r.had))) ∧ Tch M w (((((W.setCell ⟨g, k * 5, none⟩ (.string (str r.n))).setCell ⟨g, k * 5 + 1, none⟩ (.slice P1 n1 d1)).setCell ⟨g, k * 5 + 2, none⟩ (.slice P2 n2 d2)).setCell ⟨g, k * 5 + 3, none⟩ (.bool (decide (r.f.st = 2)))).setCell ⟨g, k * 5 + 4, none⟩ (.bool r.had)) := by
  have hN : rs.length = σ.fs.length := by rw [h.fs, ofF_len]
  have hok := h.ok.putW (f := r.f) hn hf
  have hpos := fnd_pos (n := r.n) h.ok.rising
  rw [hff] at hpos
  obtain ⟨pr, hp1, hp2⟩ := Option.bind_eq_some_iff.1 hpos.symm
  have hpn : pr.1 = r.n := by
    split at hp2
    · assumption
    · cases hp2
  have hput := put_pos_yes r.f hp1 hpn
  rw [← hk] at hput hp1
  have hlt : k < rs.length := by rw [hN]; exact (List.getElem?_eq_some_iff.1 hp1).1
  obtain ⟨r0, hrk⟩ : ∃ r0, rs[k]? = some r0 := ⟨_, List.getElem?_eq_getElem hlt⟩
  obtain ⟨g, cap, e, hMg, hcap, hcap2, _⟩ := h.at_ hrk
  subst e
  refine ⟨g, cap, rfl, hlt, hcap, fun W hba => ?_⟩
  have hiW := h.below hba
  have hrW := hr.below hba
  obtain ⟨g', cap', e, _, _, _, hcs⟩ := hiW.at_ hrk
  obtain ⟨e1, _, _⟩ := Value.slice.inj e
  injection e1 with e1
  injection e1 with e1
  subst e1
  have tyg : Ty W g 75 := by
    rcases hiW.row.2 with ⟨e, _⟩ | ⟨g', c', cur, e, _, hh, _⟩
    · cases e
    · obtain ⟨e1, _, _⟩ := Value.slice.inj e
      injection e1 with e1
      injection e1 with e1
      subst e1
      exact ⟨_, _, hh⟩
  have hfs : (σ.with (putF σ.fs r.n r.f)).fs = ofF (rs.set k r) := by
    show putF σ.fs r.n r.f = _
    rw [hput, h.fs]
    simp [ofF, List.map_set]
  obtain ⟨W5, hW5⟩ : ∃ W5, W5 = (((((W.setCell ⟨g, k * 5, none⟩ (.string (str r.n))).setCell ⟨g, k * 5 + 1, none⟩ (.slice P1 n1 d1)).setCell ⟨g, k * 5 + 2, none⟩ (.slice P2 n2 d2)).setCell ⟨g, k * 5 + 3, none⟩ (.bool (decide (r.f.st = 2)))).setCell ⟨g, k * 5 + 4, none⟩ (.bool r.had)) := ⟨_, rfl⟩
  have hz5 : W5.heap.size = W.heap.size := by rw [hW5]; simp [World.setCell]
  have hrow5 : W5.ownsRow 0 75 5 (.slice (some ⟨g, 0, none⟩) rs.length cap) (rs.set k r).length (rCells (rs.set k r)) := by
    have := own_write (own_write (own_write (own_write (own_write hiW.row (i := k * 5) (.string (str r.n))) (i := k * 5 + 1) (.slice P1 n1 d1)) (i := k * 5 + 2) (.slice P2 n2 d2)) (i := k * 5 + 3) (.bool (decide (r.f.st = 2)))) (i := k * 5 + 4) (.bool r.had)
    rw [← hvb, ← hvo] at this
    rw [set5 r hlt, hvb, hvo, ← hW5] at this
    rw [List.length_set]
    exact this
  have hby5 : Bys W W5 := by
    rw [hW5]
    exact ((((bys_set tyg (by decide) _ _).trans (bys_set (tyg.set _ _) (by decide) _ _)).trans (bys_set ((tyg.set _ _).set _ _) (by decide) _ _)).trans (bys_set (((tyg.set _ _).set _ _).set _ _) (by decide) _ _)).trans (bys_set ((((tyg.set _ _).set _ _).set _ _).set _ _) (by decide) _ _)
  have hon5 : Only g W W5 := by
    rw [hW5]
    exact (((((Only.refl g W).setCell _ _).setCell _ _).setCell _ _).setCell _ _).setCell _ _
  have hgq : g ≠ q := by
    intro e
    subst e
    obtain ⟨cur, fr, hh⟩ := tyg
    have hb := hiW.blk
    unfold Own at hb
    rw [hh] at hb
    injection hb with hb
    injection hb with _ hb
    exact absurd hb (by decide)
  have hops5 : W5.ownsRow 0 66 2 lv σ.ops.length (opCells σ.ops) := own_stay hiW.ops fun j e => hon5.block j (hiW.ops.lt j e).2 fun e2 => ops_ty hiW.ops tyg (by decide) j e e2
  have hfin : RefIn W5 q (σ.with (putF σ.fs r.n r.f)) (c + 1) (Grw M w W5) (Grw A w W5) (.slice (some ⟨g, 0, none⟩) rs.length cap) lv (rs.set k r) := by
    refine h.turn (by have := hba.size; omega) hok hfs (hiW.blk.only hon5 (Ne.symm hgq)) (fun r' hr' => ?_) hrow5 hops5 (fun j e => .inl (h.mf j e)) (fun j e => .inl (h.mo j e))
    rcases List.mem_or_eq_of_mem_set hr' with h0 | h0
    · exact ((hiW.all r' h0).bys hby5).mono fun _ h => .inl h
    · subst h0
      exact (hrW.bys hby5).mono fun _ h => .inl h
  have htch : Tch M w W5 := (Tch.of_below M hba).same (Tch.of_only hon5 hMg)
  refine ⟨⟨_, _, _, _, _, hcs 0 _ rfl, hcs 1 _ rfl, hcs 2 _ rfl, hcs 3 _ rfl, hcs 4 _ rfl⟩, own_free hiW.row, ?_⟩
  rw [← hW5]
  exact ⟨⟨_, _, _, hfin⟩, htch⟩
set_option maxRecDepth 100000 in
set_option maxHeartbeats 4000000 in
theorem rput_any {w : World} {q c : Nat} {σ : St} {M A : Nat → Prop} {fv lv : Value} {rs : List RFv} (r : RFv) (h : RefIn w q σ c M A fv lv rs) (hr : ROk A w r) (hf : r.f.ok) (hn : nameOk r.n = true) (hc : c ≤ 999999) :
    Calls Try.prog 41 #[.pointer (some ⟨q, 0, none⟩), agg5 r] w fun e w' => e = .returned (.tuple #[]) ∧ RefAt w' q (σ.with (putF σ.fs r.n r.f)) (c + 1) (Grw M w w') (Grw A w w') ∧ Tch M w w' := by
  have hfew := h.ok.few
  have hN : rs.length = σ.fs.length := by rw [h.fs, ofF_len]
  have hok := h.ok.putW (f := r.f) hn hf
  obtain ⟨P1, d1, hvb⟩ := hr.b.sized
  obtain ⟨ox, hox, _⟩ := hr.o
  obtain ⟨P2, d2, hvo⟩ := hox.sized
  have ea : agg5 r = .agg #[.string (str r.n), .slice P1 r.f.b.length d1, .slice P2 ox.length d2, .bool (decide (r.f.st = 2)), .bool r.had] := by unfold agg5 cell5; rw [hvb, hvo]
  rw [ea]
  have e5 : cell5 r = [.string (str r.n), .slice P1 r.f.b.length d1, .slice P2 ox.length d2, .bool (decide (r.f.st = 2)), .bool r.had] := by unfold cell5; rw [hvb, hvo]
  generalize r.f.b.length = n1 at *
  generalize ox.length = n2 at *
  -- the box
  have hba : Below w.heap.size w (w.alloc (.cells #[.string (str r.n), .slice P1 n1 d1, .slice P2 n2 d2, .bool (decide (r.f.st = 2)), .bool r.had] 75)) := (Below.refl _ w).alloc (Nat.le_refl _) _
  have hbx : Own 75 (w.alloc (.cells #[.string (str r.n), .slice P1 n1 d1, .slice P2 n2 d2, .bool (decide (r.f.st = 2)), .bool r.had] 75)) w.heap.size [.string (str r.n), .slice P1 n1 d1, .slice P2 n2 d2, .bool (decide (r.f.st = 2)), .bool r.had] := heap_alloc_new w _
  have hza : (w.alloc (.cells #[.string (str r.n), .slice P1 n1 d1, .slice P2 n2 d2, .bool (decide (r.f.st = 2)), .bool r.had] 75)).heap.size = w.heap.size + 1 := by simp
  have hfind := find_any r.n (show RefAt _ q σ c M A from ⟨_, _, _, h.below hba⟩) (by omega)
  obtain ⟨W, hW⟩ : ∃ W, W = w.alloc (.cells #[.string (str r.n), .slice P1 n1 d1, .slice P2 n2 d2, .bool (decide (r.f.st = 2)), .bool r.had] 75) := ⟨_, rfl⟩
  rw [← hW] at hba hbx hza hfind
  have hp : posF σ.fs r.n ≤ rs.length := by rw [hN]; exact pos_le _ _
  obtain ⟨k, hk⟩ : ∃ k, k = posF σ.fs r.n := ⟨_, rfl⟩
  rw [← hk] at hfind hp
  have hrW := hr.below hba
  have hiW := h.below hba
  have bx0 := hbx.cell (i := 0) rfl
  have bx1 := hbx.cell (i := 1) rfl
  have bx2 := hbx.cell (i := 2) rfl
  have bx3 := hbx.cell (i := 3) rfl
  have bx4 := hbx.cell (i := 4) rfl
  obtain ⟨Pf, capf, ef⟩ : ∃ Pf capf, fv = .slice Pf rs.length capf := by
    obtain ⟨P, c, hv, _⟩ := own_form h.row
    exact ⟨P, c, hv⟩
  cases hff : fnd σ.fs r.n with
  | some f0 =>
    obtain ⟨g, cap, e, hlt, hcap, hall⟩ := insD h hr hf hn hff hk hvb hvo
    subst e
    rw [hff] at hfind
    simp only [Option.isSome_some] at hfind
    have q1 := hiW.blk.cell (i := 1) rfl
    have HW := Lib.hid hW
    have Hfind := Lib.hid hfind
    have Hall := Lib.hid hall
    have Hba := Lib.hid hba
    have i0 : (0 : Int) ≤ (k : Int) := by omega
    have i1 : (k : Int) < (rs.length : Int) := by omega
    have hN9 : rs.length ≤ 1000000 := by omega
    clear hfew hN hok hr hvb hox hvo ea e5 hba hbx hza hfind hW hp hk hrW hiW hff hf hn h ef hall hlt
    generalize rs.length = N at *
    go_enter Try.func41, Try.ntmps41
    go_upto_region 1 with (fail)
    rw [← HW.out]
    go_wp2_with fail
    refine Hfind.out.mono ?_
    rintro e w2 ⟨rfl, nq, rfl⟩
    have hb2 : Below w.heap.size w (W.drewN nq) := below_drewN Hba.out nq
    have bx0 : (W.drewN nq).cell? ⟨w.heap.size, 0, none⟩ = some (.string (str r.n)) := bx0
    have bx1 : (W.drewN nq).cell? ⟨w.heap.size, 1, none⟩ = some (.slice P1 n1 d1) := bx1
    have bx2 : (W.drewN nq).cell? ⟨w.heap.size, 2, none⟩ = some (.slice P2 n2 d2) := bx2
    have bx3 : (W.drewN nq).cell? ⟨w.heap.size, 3, none⟩ = some (.bool (decide (r.f.st = 2))) := bx3
    have bx4 : (W.drewN nq).cell? ⟨w.heap.size, 4, none⟩ = some (.bool r.had) := bx4
    have q1 : (W.drewN nq).cell? ⟨q, 1, none⟩ = some (.slice (some ⟨g, 0, none⟩) N cap) := q1
    generalize W.drewN nq = W2 at *
    obtain ⟨⟨a0, a1, a2, a3, a4, y0, y1, y2, y3, y4⟩, yf, hR, hT⟩ := Hall.out W2.drew (below_drewN hb2 1)
    have y0 : W2.cell? ⟨g, k * 5, none⟩ = some a0 := y0
    have y1 : W2.cell? ⟨g, k * 5 + 1, none⟩ = some a1 := y1
    have y2 : W2.cell? ⟨g, k * 5 + 2, none⟩ = some a2 := y2
    have y3 : W2.cell? ⟨g, k * 5 + 3, none⟩ = some a3 := y3
    have y4 : W2.cell? ⟨g, k * 5 + 4, none⟩ = some a4 := y4
    have yf : ∀ j, W2.frozen? ⟨g, j, none⟩ = false := yf
    have HR := Lib.hid hR
    have HT := Lib.hid hT
    clear hR hT hb2
    go_upto_region 3 with (fail)
    go_still_tail 7, (by kernel_rfl)
    change wpList _ _ _ _ _ W2.drew
    go_wp2
    refine bodyPost_ret (results_none rfl _ _ _) rfl ?_
    exact ⟨rfl, HR.out, HT.out⟩
  | none =>
    rw [hff] at hfind
    simp only [Option.isSome_none] at hfind
    obtain ⟨s1, hs1, hr1⟩ := file_lo h.row (k := k) hp
    obtain ⟨s2, hs2, hr2⟩ := file_hi h.row (k := k) hp
    have hN9 : rs.length ≤ 999999 := by omega
    have q1 := hiW.blk.cell (i := 1) rfl
    subst ef
    obtain ⟨Pa, na, da, ea1⟩ : ∃ P n c, s1 = .slice P n c := by
      rcases hr1 _ h.row with ⟨e, _⟩ | ⟨ad, c, e, _⟩
      · exact ⟨_, _, _, e⟩
      · exact ⟨_, _, _, e⟩
    obtain ⟨Pb, nb, db, eb1⟩ : ∃ P n c, s2 = .slice P n c := by
      rcases hr2 _ h.row with ⟨e, _⟩ | ⟨ad, c, e, _⟩
      · exact ⟨_, _, _, e⟩
      · exact ⟨_, _, _, e⟩
    subst ea1 eb1
    have HW := Lib.hid hW
    have Hfind := Lib.hid hfind
    have Hba := Lib.hid hba
    have H := Lib.hid h
    have Hr := Lib.hid hr
    have Hr1 := Lib.hid hr1
    have Hr2 := Lib.hid hr2
    have Hff := Lib.hid hff
    have Hk := Lib.hid hk
    have Hok := Lib.hid hok
    have He5 := Lib.hid e5
    have Hp := Lib.hid hp
    have HN9 := Lib.hid hN9
    obtain ⟨N, eN⟩ : ∃ N, N = rs.length := ⟨_, rfl⟩
    rw [← eN] at q1 hs1 hs2 hp hN9
    have HN := Lib.hid eN
    clear hfew hN hok hr hvb hox hvo ea e5 hba hbx hza hfind hW hk hrW hiW hff hf hn h hr1 hr2 eN
    go_enter Try.func41, Try.ntmps41
    go_upto_region 1 with (fail)
    rw [← HW.out]
    go_wp2_with fail
    refine Hfind.out.mono ?_
    rintro e w2 ⟨rfl, nq, rfl⟩
    have hb2 : Below w.heap.size w (W.drewN nq) := below_drewN Hba.out nq
    have bx0 : (W.drewN nq).cell? ⟨w.heap.size, 0, none⟩ = some (.string (str r.n)) := bx0
    have bx1 : (W.drewN nq).cell? ⟨w.heap.size, 1, none⟩ = some (.slice P1 n1 d1) := bx1
    have bx2 : (W.drewN nq).cell? ⟨w.heap.size, 2, none⟩ = some (.slice P2 n2 d2) := bx2
    have bx3 : (W.drewN nq).cell? ⟨w.heap.size, 3, none⟩ = some (.bool (decide (r.f.st = 2))) := bx3
    have bx4 : (W.drewN nq).cell? ⟨w.heap.size, 4, none⟩ = some (.bool r.had) := bx4
    have q1 : (W.drewN nq).cell? ⟨q, 1, none⟩ = some (.slice Pf N capf) := q1
    generalize W.drewN nq = W2 at *
    have hR : RefIn W2.drew q σ c M A (.slice Pf rs.length capf) lv rs := (H.out.below hb2).drewN 1
    have hA := insA hR Hp.out (by have := HN9.out; omega) Hr1.out
    have hB := insB (rs := rs) (w := W2.drew) (k := k) (r := r) (by have := HN9.out; have := Hp.out; omega) (Hr.out.below (below_drewN hb2 1))
    have hC := insC hR Hp.out HN9.out Hr2.out (Hr.out.below (below_drewN hb2 1)) Hff.out Hk.out.symm Hok.out
    have HA := Lib.hid hA
    have HB := Lib.hid hB
    have HC := Lib.hid hC
    have Hb2 := Lib.hid hb2
    have hS0 : W2.cell? ⟨q, 1, none⟩ = some (.slice Pf N capf) ∧ W2.cell? ⟨w.heap.size, 0, none⟩ = some (.string (str r.n)) ∧ W2.cell? ⟨w.heap.size, 1, none⟩ = some (.slice P1 n1 d1) ∧ W2.cell? ⟨w.heap.size, 2, none⟩ = some (.slice P2 n2 d2) ∧ W2.cell? ⟨w.heap.size, 3, none⟩ = some (.bool (decide (r.f.st = 2))) ∧ W2.cell? ⟨w.heap.size, 4, none⟩ = some (.bool r.had) := ⟨q1, bx0, bx1, bx2, bx3, bx4⟩
    have HS0 := Lib.hid hS0
    have hsl : ∀ (X : World), Below W2.heap.size W2 X → X.cell? ⟨q, 1, none⟩ = some (.slice Pf N capf) ∧ X.cell? ⟨w.heap.size, 0, none⟩ = some (.string (str r.n)) ∧ X.cell? ⟨w.heap.size, 1, none⟩ = some (.slice P1 n1 d1) ∧ X.cell? ⟨w.heap.size, 2, none⟩ = some (.slice P2 n2 d2) ∧ X.cell? ⟨w.heap.size, 3, none⟩ = some (.bool (decide (r.f.st = 2))) ∧ X.cell? ⟨w.heap.size, 4, none⟩ = some (.bool r.had) := fun X hX => by
      have hk := Keeps.of_below hX
      exact ⟨hk _ _ HS0.out.1, hk _ _ HS0.out.2.1, hk _ _ HS0.out.2.2.1, hk _ _ HS0.out.2.2.2.1, hk _ _ HS0.out.2.2.2.2.1, hk _ _ HS0.out.2.2.2.2.2⟩
    have Hsl := Lib.hid hsl
    clear hR hA hB hC hb2 hsl q1 bx0 bx1 bx2 bx3 bx4
    go_upto_region 4 with (fail)
    refine wp_region_z (S := fun W => W.cell? ⟨q, 1, none⟩ = some (.slice Pf N capf) ∧ W.cell? ⟨w.heap.size, 0, none⟩ = some (.string (str r.n)) ∧ W.cell? ⟨w.heap.size, 1, none⟩ = some (.slice P1 n1 d1) ∧ W.cell? ⟨w.heap.size, 2, none⟩ = some (.slice P2 n2 d2) ∧ W.cell? ⟨w.heap.size, 3, none⟩ = some (.bool (decide (r.f.st = 2))) ∧ W.cell? ⟨w.heap.size, 4, none⟩ = some (.bool r.had)) (by kernel_rfl) hS0 21 (fun hHeld => ?_)
    clear hS0
    refine wpAnyZ_take (i := 0) (v := ?vz0) rfl (by kernel_rfl) (by kernel_rfl) (by kernel_rfl) (by kernel_rfl) (fun _ _ _ h => h) (Or.inl ⟨by rfl, ?yz0⟩) hHeld ?rz0
    case yz0 => (intro W hW; go_simp; first | done | with_reducible rfl)
    try simp only [List.getElem_toArray, List.getElem_cons_zero, Act.put, List.setIfInBounds_toArray, List.set_cons_zero, List.set_cons_succ]
    refine wpAnyZ_take (i := 2) (v := ?vz2) rfl (by kernel_rfl) (by kernel_rfl) (by kernel_rfl) (by kernel_rfl) (fun _ _ _ h => h) (Or.inl ⟨by rfl, ?yz2⟩) hHeld ?rz2
    case yz2 => (intro W hW; go_simp; first | done | with_reducible rfl)
    try simp only [List.getElem_toArray, List.getElem_cons_succ, List.getElem_cons_zero, Act.put, List.setIfInBounds_toArray, List.set_cons_zero, List.set_cons_succ]
    refine wpAnyZ_take (i := 3) (v := ?vz3) rfl (by kernel_rfl) (by kernel_rfl) (by kernel_rfl) (by kernel_rfl) (fun _ _ _ h => h) (Or.inl ⟨by rfl, ?yz3⟩) hHeld ?rz3
    case yz3 => (intro W hW; go_simp; first | done | with_reducible rfl)
    try simp only [List.getElem_toArray, List.getElem_cons_succ, List.getElem_cons_zero, Act.put, List.setIfInBounds_toArray, List.set_cons_zero, List.set_cons_succ]
    refine wpAnyZ_take (i := 4) (v := ?vz4) rfl (by kernel_rfl) (by kernel_rfl) (by kernel_rfl) (by kernel_rfl) (fun _ _ _ h => h) (Or.inl ⟨by rfl, ?yz4⟩) hHeld ?rz4
    case yz4 => (intro W hW; go_simp; first | done | with_reducible rfl)
    try simp only [List.getElem_toArray, List.getElem_cons_succ, List.getElem_cons_zero, Act.put, List.setIfInBounds_toArray, List.set_cons_zero, List.set_cons_succ]
    refine wpAnyZ_take (i := 5) (v := ?vz5) rfl (by kernel_rfl) (by kernel_rfl) (by kernel_rfl) (by kernel_rfl) (fun _ _ _ h => h) (Or.inl ⟨by rfl, ?yz5⟩) hHeld ?rz5
    case yz5 => (intro W hW; obtain ⟨h1, h2, h3, h4, h5, h6⟩ := hW; go_simp; first | done | with_reducible rfl)
    try simp only [List.getElem_toArray, List.getElem_cons_succ, List.getElem_cons_zero, Act.put, List.setIfInBounds_toArray, List.set_cons_zero, List.set_cons_succ]
    refine wpAnyZ_take (i := 6) (v := ?vz6) rfl (by kernel_rfl) (by kernel_rfl) (by kernel_rfl) (by kernel_rfl) (fun _ _ _ h => h) (Or.inl ⟨by rfl, ?yz6⟩) hHeld ?rz6
    case yz6 => (intro W hW; go_simp; first | done | with_reducible rfl)
    try simp only [List.getElem_toArray, List.getElem_cons_succ, List.getElem_cons_zero, Act.put, List.setIfInBounds_toArray, List.set_cons_zero, List.set_cons_succ]
    refine wpAnyZ_take (i := 7) (v := ?vz7) rfl (by kernel_rfl) (by kernel_rfl) (by kernel_rfl) (by kernel_rfl) (fun _ _ _ h => h) (Or.inl ⟨by rfl, ?yz7⟩) hHeld ?rz7
    case yz7 => (intro W hW; go_simp; first | done | with_reducible rfl)
    try simp only [List.getElem_toArray, List.getElem_cons_succ, List.getElem_cons_zero, Act.put, List.setIfInBounds_toArray, List.set_cons_zero, List.set_cons_succ]
    refine wpAnyZ_take (i := 9) (v := ?vz9) rfl (by kernel_rfl) (by kernel_rfl) (by kernel_rfl) (by kernel_rfl) (fun _ _ _ h => h) (Or.inl ⟨by rfl, ?yz9⟩) hHeld ?rz9
    case yz9 => (intro W hW; obtain ⟨h1, h2, h3, h4, h5, h6⟩ := hW; go_simp; first | done | with_reducible rfl)
    try simp only [List.getElem_toArray, List.getElem_cons_succ, List.getElem_cons_zero, Act.put, List.setIfInBounds_toArray, List.set_cons_zero, List.set_cons_succ]
    refine wpAnyZ_take (i := 12) (v := ?vz12) rfl (by kernel_rfl) (by kernel_rfl) (by kernel_rfl) (by kernel_rfl) (fun _ _ _ h => h) (Or.inl ⟨by rfl, ?yz12⟩) hHeld ?rz12
    case yz12 => (intro W hW; go_simp; first | done | with_reducible rfl)
    try simp only [List.getElem_toArray, List.getElem_cons_succ, List.getElem_cons_zero, Act.put, List.setIfInBounds_toArray, List.set_cons_zero, List.set_cons_succ]
    refine wpAnyZ_take (i := 13) (v := ?vz13) rfl (by kernel_rfl) (by kernel_rfl) (by kernel_rfl) (by kernel_rfl) (fun _ _ _ h => h) (Or.inl ⟨by rfl, ?yz13⟩) hHeld ?rz13
    case yz13 => (intro W hW; go_simp; first | done | with_reducible rfl)
    try simp only [List.getElem_toArray, List.getElem_cons_succ, List.getElem_cons_zero, Act.put, List.setIfInBounds_toArray, List.set_cons_zero, List.set_cons_succ]
    refine wpAnyZ_take (i := 14) (v := ?vz14) rfl (by kernel_rfl) (by kernel_rfl) (by kernel_rfl) (by kernel_rfl) (fun _ _ _ h => h) (Or.inl ⟨by rfl, ?yz14⟩) hHeld ?rz14
    case yz14 => (intro W hW; go_simp; first | done | with_reducible rfl)
    try simp only [List.getElem_toArray, List.getElem_cons_succ, List.getElem_cons_zero, Act.put, List.setIfInBounds_toArray, List.set_cons_zero, List.set_cons_succ]
    refine wpAnyZ_take (i := 15) (v := ?vz15) rfl (by kernel_rfl) (by kernel_rfl) (by kernel_rfl) (by kernel_rfl) (fun _ _ _ h => h) (Or.inl ⟨by rfl, ?yz15⟩) hHeld ?rz15
    case yz15 => (intro W hW; obtain ⟨h1, h2, h3, h4, h5, h6⟩ := hW; go_simp; first | done | with_reducible rfl)
    try simp only [List.getElem_toArray, List.getElem_cons_succ, List.getElem_cons_zero, Act.put, List.setIfInBounds_toArray, List.set_cons_zero, List.set_cons_succ]
    refine wpAnyZ_take (i := 16) (v := ?vz16) rfl (by kernel_rfl) (by kernel_rfl) (by kernel_rfl) (by kernel_rfl) (fun _ _ _ h => h) (Or.inl ⟨by rfl, ?yz16⟩) hHeld ?rz16
    case yz16 => (intro W hW; go_simp; first | done | with_reducible rfl)
    try simp only [List.getElem_toArray, List.getElem_cons_succ, List.getElem_cons_zero, Act.put, List.setIfInBounds_toArray, List.set_cons_zero, List.set_cons_succ]
    refine wpAnyZ_take (i := 17) (v := ?vz17) rfl (by kernel_rfl) (by kernel_rfl) (by kernel_rfl) (by kernel_rfl) (fun _ _ _ h => h) (Or.inl ⟨by rfl, ?yz17⟩) hHeld ?rz17
    case yz17 => (intro W hW; go_simp; first | done | with_reducible rfl)
    try simp only [List.getElem_toArray, List.getElem_cons_succ, List.getElem_cons_zero, Act.put, List.setIfInBounds_toArray, List.set_cons_zero, List.set_cons_succ]
    refine wpAnyZ_ready (rs := [1, 10]) (by kernel_rfl) (by simp) ?_
    refine AllReadyZ.cons rfl (fun K hK => ?_) (AllReadyZ.cons rfl (fun K hK => ?_) (AllReadyZ.nil))
    · go_simp
      refine hK.out _ _ (fun _ => Hsl.out _ ((below_drewN (Below.refl W2.heap.size W2) 1).alloc (by simp) (.cells #[] 75))) (fun hHeld => ?_)
      replace hHeld := hHeld (by decide)
      clear hK K
      try simp only [List.getElem_toArray, List.getElem_cons_succ, List.getElem_cons_zero, Act.put, List.setIfInBounds_toArray, List.set_cons_zero, List.set_cons_succ]
      refine wpAnyZ_ready (rs := [8, 10]) (by kernel_rfl) (by simp) ?_
      refine AllReadyZ.cons rfl (fun K hK => ?_) (AllReadyZ.cons rfl (fun K hK => ?_) (AllReadyZ.nil))
      · obtain ⟨Pc, nc, dc, Wb, run1, o1, b1, g1⟩ := HA.out (W2.drew.alloc (.cells #[] 75)) (W2.heap.size) ((Below.refl W2.drew.heap.size W2.drew).alloc (by simp) (.cells #[] 75)) (World.ownsRow_made W2.drew #[] 0 (Nat.le_refl _) (by simp [maxLen]) rfl)
        have Run1 := Lib.hid run1
        have O1 := Lib.hid o1
        have B1 := Lib.hid b1
        have G1 := Lib.hid g1
        have B1s : Hid (Below W2.heap.size W2 Wb) := Lib.hid ((below_drewN (Below.refl _ _) 1).trans b1)
        clear run1 o1 b1 g1
        rw [if_pos (by rfl)]
        refine oper_append (.tmp 22) (.tmp 28) 60 rfl _ _ _ _ rfl rfl Run1.out ?_
        refine hK.out _ _ (fun _ => Hsl.out _ B1s.out) (fun hHeld => ?_)
        replace hHeld := hHeld (by decide)
        clear hK K
        try simp only [List.getElem_toArray, List.getElem_cons_succ, List.getElem_cons_zero, Act.put, List.setIfInBounds_toArray, List.set_cons_zero, List.set_cons_succ]
        refine wpAnyZ_ready (rs := [10]) (by kernel_rfl) (by simp) ?_
        refine AllReadyZ.cons rfl (fun K hK => ?_) (AllReadyZ.nil)
        go_simp
        refine hK.out _ _ (fun _ => Hsl.out _ (B1s.out.alloc B1s.out.size (.cells #[.string (str r.n), .slice P1 n1 d1, .slice P2 n2 d2, .bool (decide (r.f.st = 2)), .bool r.had] 75))) (fun hHeld => ?_)
        replace hHeld := hHeld (by decide)
        clear hK K
        try simp only [List.getElem_toArray, List.getElem_cons_succ, List.getElem_cons_zero, Act.put, List.setIfInBounds_toArray, List.set_cons_zero, List.set_cons_succ]
        obtain ⟨Pd, nd, dd, Wc, run2, o2, b2⟩ := HB.out (Wb.alloc (.cells #[.string (str r.n), .slice P1 n1 d1, .slice P2 n2 d2, .bool (decide (r.f.st = 2)), .bool r.had] 75)) (.slice Pc nc dc) (Wb.heap.size) (B1.out.alloc B1.out.size (.cells #[.string (str r.n), .slice P1 n1 d1, .slice P2 n2 d2, .bool (decide (r.f.st = 2)), .bool r.had] 75)) (O1.out.alloc _) (He5.out ▸ heap_alloc_new Wb _)
        have Run2 := Lib.hid run2
        have B2s : Hid (Below W2.heap.size W2 Wc) := Lib.hid ((below_drewN (Below.refl _ _) 1).trans b2)
        obtain ⟨Pe, ne, de, Wd, run3, b3, zf, z3, z4⟩ := HC.out Wc (.slice Pd nd dd) b2 o2
        have Run3 := Lib.hid run3
        have B3s : Hid (Below W2.heap.size W2 Wd) := Lib.hid ((below_drewN (Below.refl _ _) 1).trans b3)
        have Z3 := Lib.hid z3
        have Z4 := Lib.hid z4
        have zq := (Hsl.out _ B3s.out).1
        clear run2 o2 b2 run3 b3 z3 z4
        refine wpAnyZ_ready (rs := [11]) (by kernel_rfl) (by simp) ?_
        refine AllReadyZ.cons rfl (fun K hK => ?_) (AllReadyZ.nil)
        rw [if_pos (by rfl)]
        refine oper_append (.tmp 29) (.tmp 31) 60 rfl _ _ _ _ rfl rfl Run2.out ?_
        refine hK.out _ _ (fun _ => Hsl.out _ B2s.out) (fun hHeld => ?_)
        replace hHeld := hHeld (by decide)
        clear hK K
        try simp only [List.getElem_toArray, List.getElem_cons_succ, List.getElem_cons_zero, Act.put, List.setIfInBounds_toArray, List.set_cons_zero, List.set_cons_succ]
        refine wpAnyZ_ready (rs := [18]) (by kernel_rfl) (by simp) ?_
        refine AllReadyZ.cons rfl (fun K hK => ?_) (AllReadyZ.nil)
        rw [if_pos (by rfl)]
        refine oper_append (.tmp 32) (.tmp 38) 60 rfl _ _ _ _ rfl rfl Run3.out ?_
        refine hK.out _ _ (fun _ => Hsl.out _ B3s.out) (fun hHeld => ?_)
        replace hHeld := hHeld (by decide)
        clear hK K
        try simp only [List.getElem_toArray, List.getElem_cons_succ, List.getElem_cons_zero, Act.put, List.setIfInBounds_toArray, List.set_cons_zero, List.set_cons_succ]
        refine wpAnyZ_ready (rs := [19]) (by kernel_rfl) (by simp) ?_
        refine AllReadyZ.cons rfl (fun K hK => ?_) (AllReadyZ.nil)
        go_simp
        refine hK.out _ _ (fun _ => Hsl.out _ B3s.out) (fun hHeld => ?_)
        replace hHeld := hHeld (by decide)
        clear hK K
        try simp only [List.getElem_toArray, List.getElem_cons_succ, List.getElem_cons_zero, Act.put, List.setIfInBounds_toArray, List.set_cons_zero, List.set_cons_succ]
        refine wpAnyZ_take (i := 20) (v := ?vpa20) rfl (by kernel_rfl) (by kernel_rfl) (by kernel_rfl) (by kernel_rfl) (fun _ _ _ h => h) (Or.inl ⟨by rfl, ?ypa20⟩) hHeld ?rpa20
        case ypa20 => (intro W hW; go_simp; first | done | with_reducible rfl)
        try simp only [List.getElem_toArray, List.getElem_cons_succ, List.getElem_cons_zero, Act.put, List.setIfInBounds_toArray, List.set_cons_zero, List.set_cons_succ]
        refine wpAnyZ_ready (rs := [21]) (by kernel_rfl) (by simp) ?_
        refine AllReadyZ.cons rfl (fun K hK => ?_) (AllReadyZ.nil)
        go_simp
        refine hK.out _ _ (fun h => absurd rfl h) (fun hHeld => ?_)
        clear hK K hHeld
        try simp only [List.getElem_toArray, List.getElem_cons_succ, List.getElem_cons_zero, Act.put, List.setIfInBounds_toArray, List.set_cons_zero, List.set_cons_succ]
        refine wpAnyZ_done (by kernel_rfl) ?_ _
        go_wp2
        go_end0
        exact ⟨rfl, Z3.out.mono (fun k hk => grw_mono Hb2.out.size hk) (fun k hk => grw_mono Hb2.out.size hk) (grw_bd H.out.ml (Nat.le_trans Hb2.out.size Z4.out.size)) (grw_bd H.out.al (Nat.le_trans Hb2.out.size Z4.out.size)) (Nat.le_refl _), ((Tch.of_below M Hb2.out).drewN 1).same Z4.out⟩
      · go_simp
        refine hK.out _ _ (fun _ => Hsl.out _ (((below_drewN (Below.refl W2.heap.size W2) 1).alloc (by simp) (.cells #[] 75)).alloc (by simp) (.cells #[.string (str r.n), .slice P1 n1 d1, .slice P2 n2 d2, .bool (decide (r.f.st = 2)), .bool r.had] 75))) (fun hHeld => ?_)
        replace hHeld := hHeld (by decide)
        clear hK K
        try simp only [List.getElem_toArray, List.getElem_cons_succ, List.getElem_cons_zero, Act.put, List.setIfInBounds_toArray, List.set_cons_zero, List.set_cons_succ]
        refine wpAnyZ_ready (rs := [8]) (by kernel_rfl) (by simp) ?_
        refine AllReadyZ.cons rfl (fun K hK => ?_) (AllReadyZ.nil)
        obtain ⟨Pc, nc, dc, Wb, run1, o1, b1, g1⟩ := HA.out ((W2.drew.alloc (.cells #[] 75)).alloc (.cells #[.string (str r.n), .slice P1 n1 d1, .slice P2 n2 d2, .bool (decide (r.f.st = 2)), .bool r.had] 75)) (W2.heap.size) (((Below.refl W2.drew.heap.size W2.drew).alloc (by simp) (.cells #[] 75)).alloc (by simp) (.cells #[.string (str r.n), .slice P1 n1 d1, .slice P2 n2 d2, .bool (decide (r.f.st = 2)), .bool r.had] 75)) ((World.ownsRow_made W2.drew #[] 0 (Nat.le_refl _) (by simp [maxLen]) rfl).alloc (.cells #[.string (str r.n), .slice P1 n1 d1, .slice P2 n2 d2, .bool (decide (r.f.st = 2)), .bool r.had] 75))
        have Run1 := Lib.hid run1
        have O1 := Lib.hid o1
        have B1 := Lib.hid b1
        have G1 := Lib.hid g1
        have B1s : Hid (Below W2.heap.size W2 Wb) := Lib.hid ((below_drewN (Below.refl _ _) 1).trans b1)
        clear run1 o1 b1 g1
        rw [if_pos (by rfl)]
        refine oper_append (.tmp 22) (.tmp 28) 60 rfl _ _ _ _ rfl rfl Run1.out ?_
        refine hK.out _ _ (fun _ => Hsl.out _ B1s.out) (fun hHeld => ?_)
        replace hHeld := hHeld (by decide)
        clear hK K
        try simp only [List.getElem_toArray, List.getElem_cons_succ, List.getElem_cons_zero, Act.put, List.setIfInBounds_toArray, List.set_cons_zero, List.set_cons_succ]
        obtain ⟨Pd, nd, dd, Wc, run2, o2, b2⟩ := HB.out Wb (.slice Pc nc dc) (W2.heap.size + 1) B1.out O1.out (show Own 75 Wb (W2.heap.size + 1) (cell5 r) from He5.out ▸ ((G1.out.block (W2.heap.size + 1) (by simp <;> omega) (by intro e; injection e with e; simp at e)).trans (by have := heap_alloc_new (W2.drew.alloc (.cells #[] 75)) (.cells #[.string (str r.n), .slice P1 n1 d1, .slice P2 n2 d2, .bool (decide (r.f.st = 2)), .bool r.had] 75); simpa using this)))
        have Run2 := Lib.hid run2
        have B2s : Hid (Below W2.heap.size W2 Wc) := Lib.hid ((below_drewN (Below.refl _ _) 1).trans b2)
        obtain ⟨Pe, ne, de, Wd, run3, b3, zf, z3, z4⟩ := HC.out Wc (.slice Pd nd dd) b2 o2
        have Run3 := Lib.hid run3
        have B3s : Hid (Below W2.heap.size W2 Wd) := Lib.hid ((below_drewN (Below.refl _ _) 1).trans b3)
        have Z3 := Lib.hid z3
        have Z4 := Lib.hid z4
        have zq := (Hsl.out _ B3s.out).1
        clear run2 o2 b2 run3 b3 z3 z4
        refine wpAnyZ_ready (rs := [11]) (by kernel_rfl) (by simp) ?_
        refine AllReadyZ.cons rfl (fun K hK => ?_) (AllReadyZ.nil)
        rw [if_pos (by rfl)]
        refine oper_append (.tmp 29) (.tmp 31) 60 rfl _ _ _ _ rfl rfl Run2.out ?_
        refine hK.out _ _ (fun _ => Hsl.out _ B2s.out) (fun hHeld => ?_)
        replace hHeld := hHeld (by decide)
        clear hK K
        try simp only [List.getElem_toArray, List.getElem_cons_succ, List.getElem_cons_zero, Act.put, List.setIfInBounds_toArray, List.set_cons_zero, List.set_cons_succ]
        refine wpAnyZ_ready (rs := [18]) (by kernel_rfl) (by simp) ?_
        refine AllReadyZ.cons rfl (fun K hK => ?_) (AllReadyZ.nil)
        rw [if_pos (by rfl)]
        refine oper_append (.tmp 32) (.tmp 38) 60 rfl _ _ _ _ rfl rfl Run3.out ?_
        refine hK.out _ _ (fun _ => Hsl.out _ B3s.out) (fun hHeld => ?_)
        replace hHeld := hHeld (by decide)
        clear hK K
        try simp only [List.getElem_toArray, List.getElem_cons_succ, List.getElem_cons_zero, Act.put, List.setIfInBounds_toArray, List.set_cons_zero, List.set_cons_succ]
        refine wpAnyZ_ready (rs := [19]) (by kernel_rfl) (by simp) ?_
        refine AllReadyZ.cons rfl (fun K hK => ?_) (AllReadyZ.nil)
        go_simp
        refine hK.out _ _ (fun _ => Hsl.out _ B3s.out) (fun hHeld => ?_)
        replace hHeld := hHeld (by decide)
        clear hK K
        try simp only [List.getElem_toArray, List.getElem_cons_succ, List.getElem_cons_zero, Act.put, List.setIfInBounds_toArray, List.set_cons_zero, List.set_cons_succ]
        refine wpAnyZ_take (i := 20) (v := ?vpb20) rfl (by kernel_rfl) (by kernel_rfl) (by kernel_rfl) (by kernel_rfl) (fun _ _ _ h => h) (Or.inl ⟨by rfl, ?ypb20⟩) hHeld ?rpb20
        case ypb20 => (intro W hW; go_simp; first | done | with_reducible rfl)
        try simp only [List.getElem_toArray, List.getElem_cons_succ, List.getElem_cons_zero, Act.put, List.setIfInBounds_toArray, List.set_cons_zero, List.set_cons_succ]
        refine wpAnyZ_ready (rs := [21]) (by kernel_rfl) (by simp) ?_
        refine AllReadyZ.cons rfl (fun K hK => ?_) (AllReadyZ.nil)
        go_simp
        refine hK.out _ _ (fun h => absurd rfl h) (fun hHeld => ?_)
        clear hK K hHeld
        try simp only [List.getElem_toArray, List.getElem_cons_succ, List.getElem_cons_zero, Act.put, List.setIfInBounds_toArray, List.set_cons_zero, List.set_cons_succ]
        refine wpAnyZ_done (by kernel_rfl) ?_ _
        go_wp2
        go_end0
        exact ⟨rfl, Z3.out.mono (fun k hk => grw_mono Hb2.out.size hk) (fun k hk => grw_mono Hb2.out.size hk) (grw_bd H.out.ml (Nat.le_trans Hb2.out.size Z4.out.size)) (grw_bd H.out.al (Nat.le_trans Hb2.out.size Z4.out.size)) (Nat.le_refl _), ((Tch.of_below M Hb2.out).drewN 1).same Z4.out⟩
    · go_simp
      refine hK.out _ _ (fun _ => Hsl.out _ ((below_drewN (Below.refl W2.heap.size W2) 1).alloc (by simp) (.cells #[.string (str r.n), .slice P1 n1 d1, .slice P2 n2 d2, .bool (decide (r.f.st = 2)), .bool r.had] 75))) (fun hHeld => ?_)
      replace hHeld := hHeld (by decide)
      clear hK K
      try simp only [List.getElem_toArray, List.getElem_cons_succ, List.getElem_cons_zero, Act.put, List.setIfInBounds_toArray, List.set_cons_zero, List.set_cons_succ]
      refine wpAnyZ_ready (rs := [1]) (by kernel_rfl) (by simp) ?_
      refine AllReadyZ.cons rfl (fun K hK => ?_) (AllReadyZ.nil)
      go_simp
      refine hK.out _ _ (fun _ => Hsl.out _ (((below_drewN (Below.refl W2.heap.size W2) 1).alloc (by simp) (.cells #[.string (str r.n), .slice P1 n1 d1, .slice P2 n2 d2, .bool (decide (r.f.st = 2)), .bool r.had] 75)).alloc (by simp) (.cells #[] 75))) (fun hHeld => ?_)
      replace hHeld := hHeld (by decide)
      clear hK K
      try simp only [List.getElem_toArray, List.getElem_cons_succ, List.getElem_cons_zero, Act.put, List.setIfInBounds_toArray, List.set_cons_zero, List.set_cons_succ]
      refine wpAnyZ_ready (rs := [8]) (by kernel_rfl) (by simp) ?_
      refine AllReadyZ.cons rfl (fun K hK => ?_) (AllReadyZ.nil)
      obtain ⟨Pc, nc, dc, Wb, run1, o1, b1, g1⟩ := HA.out ((W2.drew.alloc (.cells #[.string (str r.n), .slice P1 n1 d1, .slice P2 n2 d2, .bool (decide (r.f.st = 2)), .bool r.had] 75)).alloc (.cells #[] 75)) (W2.heap.size + 1) (((Below.refl W2.drew.heap.size W2.drew).alloc (by simp) (.cells #[.string (str r.n), .slice P1 n1 d1, .slice P2 n2 d2, .bool (decide (r.f.st = 2)), .bool r.had] 75)).alloc (by simp) (.cells #[] 75)) (by have := World.ownsRow_made (base := W2.drew.heap.size) (e := 75) (size := 5) (W2.drew.alloc (.cells #[.string (str r.n), .slice P1 n1 d1, .slice P2 n2 d2, .bool (decide (r.f.st = 2)), .bool r.had] 75)) #[] 0 (by simp) (by simp [maxLen]) rfl; rw [show (W2.drew.alloc (.cells #[.string (str r.n), .slice P1 n1 d1, .slice P2 n2 d2, .bool (decide (r.f.st = 2)), .bool r.had] 75)).heap.size = W2.heap.size + 1 from by simp] at this; exact this)
      have Run1 := Lib.hid run1
      have O1 := Lib.hid o1
      have B1 := Lib.hid b1
      have G1 := Lib.hid g1
      have B1s : Hid (Below W2.heap.size W2 Wb) := Lib.hid ((below_drewN (Below.refl _ _) 1).trans b1)
      clear run1 o1 b1 g1
      rw [if_pos (by rfl)]
      refine oper_append (.tmp 22) (.tmp 28) 60 rfl _ _ _ _ rfl rfl Run1.out ?_
      refine hK.out _ _ (fun _ => Hsl.out _ B1s.out) (fun hHeld => ?_)
      replace hHeld := hHeld (by decide)
      clear hK K
      try simp only [List.getElem_toArray, List.getElem_cons_succ, List.getElem_cons_zero, Act.put, List.setIfInBounds_toArray, List.set_cons_zero, List.set_cons_succ]
      obtain ⟨Pd, nd, dd, Wc, run2, o2, b2⟩ := HB.out Wb (.slice Pc nc dc) (W2.heap.size) B1.out O1.out (show Own 75 Wb (W2.heap.size) (cell5 r) from He5.out ▸ ((G1.out.block (W2.heap.size) (by simp <;> omega) (by intro e; injection e with e; simp at e)).trans (by have := ((Below.refl (W2.drew.alloc (.cells #[.string (str r.n), .slice P1 n1 d1, .slice P2 n2 d2, .bool (decide (r.f.st = 2)), .bool r.had] 75)).heap.size (W2.drew.alloc (.cells #[.string (str r.n), .slice P1 n1 d1, .slice P2 n2 d2, .bool (decide (r.f.st = 2)), .bool r.had] 75))).alloc (Nat.le_refl _) (.cells #[] 75)).block W2.heap.size (by simp <;> omega); exact this.trans (heap_alloc_new W2.drew (.cells #[.string (str r.n), .slice P1 n1 d1, .slice P2 n2 d2, .bool (decide (r.f.st = 2)), .bool r.had] 75)))))
      have Run2 := Lib.hid run2
      have B2s : Hid (Below W2.heap.size W2 Wc) := Lib.hid ((below_drewN (Below.refl _ _) 1).trans b2)
      obtain ⟨Pe, ne, de, Wd, run3, b3, zf, z3, z4⟩ := HC.out Wc (.slice Pd nd dd) b2 o2
      have Run3 := Lib.hid run3
      have B3s : Hid (Below W2.heap.size W2 Wd) := Lib.hid ((below_drewN (Below.refl _ _) 1).trans b3)
      have Z3 := Lib.hid z3
      have Z4 := Lib.hid z4
      have zq := (Hsl.out _ B3s.out).1
      clear run2 o2 b2 run3 b3 z3 z4
      refine wpAnyZ_ready (rs := [11]) (by kernel_rfl) (by simp) ?_
      refine AllReadyZ.cons rfl (fun K hK => ?_) (AllReadyZ.nil)
      rw [if_pos (by rfl)]
      refine oper_append (.tmp 29) (.tmp 31) 60 rfl _ _ _ _ rfl rfl Run2.out ?_
      refine hK.out _ _ (fun _ => Hsl.out _ B2s.out) (fun hHeld => ?_)
      replace hHeld := hHeld (by decide)
      clear hK K
      try simp only [List.getElem_toArray, List.getElem_cons_succ, List.getElem_cons_zero, Act.put, List.setIfInBounds_toArray, List.set_cons_zero, List.set_cons_succ]
      refine wpAnyZ_ready (rs := [18]) (by kernel_rfl) (by simp) ?_
      refine AllReadyZ.cons rfl (fun K hK => ?_) (AllReadyZ.nil)
      rw [if_pos (by rfl)]
      refine oper_append (.tmp 32) (.tmp 38) 60 rfl _ _ _ _ rfl rfl Run3.out ?_
      refine hK.out _ _ (fun _ => Hsl.out _ B3s.out) (fun hHeld => ?_)
      replace hHeld := hHeld (by decide)
      clear hK K
      try simp only [List.getElem_toArray, List.getElem_cons_succ, List.getElem_cons_zero, Act.put, List.setIfInBounds_toArray, List.set_cons_zero, List.set_cons_succ]
      refine wpAnyZ_ready (rs := [19]) (by kernel_rfl) (by simp) ?_
      refine AllReadyZ.cons rfl (fun K hK => ?_) (AllReadyZ.nil)
      go_simp
      refine hK.out _ _ (fun _ => Hsl.out _ B3s.out) (fun hHeld => ?_)
      replace hHeld := hHeld (by decide)
      clear hK K
      try simp only [List.getElem_toArray, List.getElem_cons_succ, List.getElem_cons_zero, Act.put, List.setIfInBounds_toArray, List.set_cons_zero, List.set_cons_succ]
      refine wpAnyZ_take (i := 20) (v := ?vpc20) rfl (by kernel_rfl) (by kernel_rfl) (by kernel_rfl) (by kernel_rfl) (fun _ _ _ h => h) (Or.inl ⟨by rfl, ?ypc20⟩) hHeld ?rpc20
      case ypc20 => (intro W hW; go_simp; first | done | with_reducible rfl)
      try simp only [List.getElem_toArray, List.getElem_cons_succ, List.getElem_cons_zero, Act.put, List.setIfInBounds_toArray, List.set_cons_zero, List.set_cons_succ]
      refine wpAnyZ_ready (rs := [21]) (by kernel_rfl) (by simp) ?_
      refine AllReadyZ.cons rfl (fun K hK => ?_) (AllReadyZ.nil)
      go_simp
      refine hK.out _ _ (fun h => absurd rfl h) (fun hHeld => ?_)
      clear hK K hHeld
      try simp only [List.getElem_toArray, List.getElem_cons_succ, List.getElem_cons_zero, Act.put, List.setIfInBounds_toArray, List.set_cons_zero, List.set_cons_succ]
      refine wpAnyZ_done (by kernel_rfl) ?_ _
      go_wp2
      go_end0
      exact ⟨rfl, Z3.out.mono (fun k hk => grw_mono Hb2.out.size hk) (fun k hk => grw_mono Hb2.out.size hk) (grw_bd H.out.ml (Nat.le_trans Hb2.out.size Z4.out.size)) (grw_bd H.out.al (Nat.le_trans Hb2.out.size Z4.out.size)) (Nat.le_refl _), ((Tch.of_below M Hb2.out).drewN 1).same Z4.out⟩
end Go.Proofs.Ytgkgkekgmcldmaa
