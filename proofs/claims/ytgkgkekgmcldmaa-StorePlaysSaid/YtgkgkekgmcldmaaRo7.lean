/- The reference's face: Write. -/
import Derived.Test.YtgkgkekgmcldmaaRo5
import Derived.Test.YtgkgkekgmcldmaaRo6
namespace Go.Proofs.Ytgkgkekgmcldmaa
open Go.RowKit
/-- A copy of bytes into a row that was just made. -/
theorem copy_bytes (w : World) (P : Option Addr) (m cap : Nat) (xs : List Int) (hx : Nums .u8 w P m xs) (hm : m ≤ 1000000) (hP : P = none → cap = 0) :
    ∃ Pa ca W', (Builtin.append_ #[23, 23] 23 #[.slice (some ⟨w.heap.size, 0, none⟩) 0 0, .slice P m cap]).run Try.prog (w.alloc (.cells #[] 5)) = .ok (.slice Pa m ca) W' ∧ W'.ownsRow w.heap.size 5 1 (.slice Pa m ca) m (byts xs) ∧ Below w.heap.size w W' := by
  obtain ⟨i0, hi, hz0, hz1, hz2⟩ := info_parts infoByte
  have hlit : (w.alloc (.cells #[] 5)).ownsRow w.heap.size 5 1 (.slice (some ⟨w.heap.size, 0, none⟩) 0 0) 0 [] := World.ownsRow_made w #[] 0 (Nat.le_refl _) (by simp [maxLen]) (by simp)
  have hb : Below w.heap.size w (w.alloc (.cells #[] 5)) := (Below.refl _ _).alloc (Nat.le_refl _) _
  cases P with
  | none =>
    obtain rfl : cap = 0 := hP rfl
    have h0 : m = 0 := by
      rcases Nat.eq_zero_or_pos m with h | h
      · exact h
      · obtain ⟨_, e, _⟩ := hx.2.2 h; cases e
    subst h0
    have e : xs = [] := List.eq_nil_of_length_eq_zero hx.1
    subst e
    exact ⟨_, _, _, run_append_owned_none (P := Try.prog) (w := w.alloc (.cells #[] 5)) w.heap.size 23 23 5 i0 1 Try.underlying23 hi _ 0 [] hlit, hlit, hb⟩
  | some ad =>
    obtain ⟨_, W', hrun, ho, hgr, _⟩ := run_append_own_at (P := Try.prog) (w.alloc (.cells #[] 5)) w.heap.size 23 23 5 i0 _ 1 1 Try.underlying23 hi hz0 hz1 hz2 rfl (by omega) _ 0 [] hlit ad m cap (byts xs) (by rw [byts_len, hx.1]; omega)
      (fun j u hu => (Keeps.of_below hb) _ _ (hx.cells_u8 rfl j u hu)) (byts_one _) (by simp [maxLen]; omega) (by omega) hb.size
    rw [Nat.zero_add, List.nil_append] at ho
    obtain ⟨Pa, ca, hv, _⟩ := own_form ho
    subst hv
    exact ⟨Pa, ca, W', hrun, ho, hb.grown hgr hb.size fun j e => (hlit.lt j e).1⟩
/-- The file that a name has; else one of nothing. -/
def noF (n : Nm) : RFv := ⟨n, valF none, .slice none 0 0, .slice none 0 0, false⟩
theorem noF_ok (A : Nat → Prop) (w : World) (n : Nm) : ROk A w (noF n) := ⟨FB.nil _ _, ⟨[], FB.nil _ _, by simp [noF, valF]⟩, by simp [noF]⟩
theorem RefIn.got {w : World} {q c : Nat} {σ : St} {M A : Nat → Prop} {fv lv : Value} {rs : List RFv} (h : RefIn w q σ c M A fv lv rs) {n : Nm} {f : SF} (hf : fnd σ.fs n = some f) : ∃ r, rs[posF σ.fs n]? = some r ∧ r.n = n ∧ r.f = f := by
  have hpos := fnd_pos (n := n) h.ok.rising
  rw [hf] at hpos
  obtain ⟨pr, hp1, hp2⟩ := Option.bind_eq_some_iff.1 hpos.symm
  have hp1' := hp1
  rw [h.fs] at hp1
  have hp3 : (ofF rs)[posF σ.fs n]? = some pr := by rw [← h.fs]; exact hp1'
  simp only [ofF, List.getElem?_map, Option.map_eq_some_iff] at hp3
  obtain ⟨r, hr, rfl⟩ := hp3
  split at hp2
  · rename_i h1
    injection hp2 with hp2
    exact ⟨r, hr, h1, hp2⟩
  · cases hp2
theorem RefPost.no {w w' : World} {q c : Nat} {σ : St} {M A : Nat → Prop} {v : Value} (h : RefAt w q σ c M A) (hb : Below w.heap.size w w') : RefPost q σ (c + 1) M A v w (.returned v) w' :=
  ⟨rfl, (h.below hb).mono (fun _ hk => .inl hk) (fun _ hk => .inl hk) (grw_bd h.ml hb.size) (grw_bd h.al hb.size) (Nat.le_succ _), Tch.of_below M hb⟩
theorem RefPost.chain {w w3 w4 w5 : World} {q c c' : Nat} {σ σ'' : St} {M A : Nat → Prop} {v : Value} {e : Ending} (h : RefAt w q σ c M A) (t3 : Tch M w w3) (t4 : Tch M w3 w4) (h5 : RefAt w5 q σ'' c' (Grw (Grw M w3 w4) w4 w5) (Grw (Grw (Grw A w w3) w3 w4) w4 w5)) (t5 : Tch (Grw M w3 w4) w4 w5) (he : e = .returned v) : RefPost q σ'' c' M A v w e w5 := by
  have s3 := t3.size
  have s4 := t4.size
  have s5 := t5.size
  refine ⟨he, h5.mono (fun k hk => ?_) (fun k hk => ?_) (grw_bd h.ml (by omega)) (grw_bd h.al (by omega)) (Nat.le_refl _), (t3.same t4).trans t5 fun k hk hg => ?_⟩
  · exact grw_mono s3 (Grw.trans s4 s5 hk)
  · have := Grw.trans s4 s5 hk
    exact Grw.trans s3 (by omega) this
  · rcases hg with hg | hg
    · exact hg
    · omega
theorem cell5_slices {A : Nat → Prop} {w : World} {r : RFv} (h : ROk A w r) : ∃ P1 n1 d1 P2 n2 d2, r.vb = .slice P1 n1 d1 ∧ r.vo = .slice P2 n2 d2 ∧ n1 = r.f.b.length := by
  obtain ⟨P1, d1, e1⟩ := h.b.sized
  obtain ⟨ox, ho, _⟩ := h.o
  obtain ⟨P2, d2, e2⟩ := ho.sized
  exact ⟨P1, _, d1, P2, _, d2, e1, e2, rfl⟩
set_option maxRecDepth 100000 in
set_option maxHeartbeats 4000000 in
theorem rWrite_any {w : World} {q c : Nat} {σ : St} {M A : Nat → Prop} (n : Nm) (P : Option Addr) (m cap : Nat) (xs : List Int) (h : RefAt w q σ c M A) (hn : n.length ≤ 1000000) (hc : c ≤ 999998)
    (hx : Nums .u8 w P m xs) (hm : m ≤ 1000) (hP : P = none → cap = 0) :
    Calls Try.prog 18 #[.pointer (some ⟨q, 0, none⟩), .string (str n), .slice P m cap] w (RefPost q (σ.write n xs).2 (c + 1) M A (.int .i64 (σ.write n xs).1) w) := by
  have Hright := Lib.hid (right_any n w hn)
  cases hnk : nameOk n with
  | false =>
    have e : σ.write n xs = (1, σ) := by unfold St.write; rw [if_pos hnk]
    rw [e]
    have H := Lib.hid h
    have Hnk := Lib.hid hnk
    clear h hnk e hx
    go_enter Try.func18, Try.ntmps18
    go_wp2_with fail
    refine Hright.out.mono ?_
    rintro e w1 ⟨rfl, rfl⟩
    rw [Hnk.out]
    go_wp2
    go_ret
    exact RefPost.no H.out (Below.refl _ _)
  | true =>
    have Hnk := Lib.hid hnk
    have hfind := find_any n h (by omega)
    have H := Lib.hid h
    obtain ⟨fv, lv, rs, hi⟩ := h
    obtain ⟨hlim1, hlim2⟩ := hi.ok.lim
    have hu := hi.ok.used (by omega)
    have hu2 := lenF_le σ.fs n
    have hlv : (valF (fnd σ.fs n)).b.length = lenF (fnd σ.fs n) := by cases fnd σ.fs n <;> rfl
    -- what the name has
    obtain ⟨r0, h0n, h0f, h0ok, h0at⟩ : ∃ r0 : RFv, r0.n = n ∧ r0.f = valF (fnd σ.fs n) ∧ ROk A w r0 ∧ (fnd σ.fs n = none → r0 = noF n) ∧ ((fnd σ.fs n).isSome = true → rs[posF σ.fs n]? = some r0) := by
      cases hf : fnd σ.fs n with
      | none => exact ⟨noF n, rfl, rfl, noF_ok _ _ _, fun _ => rfl, by simp⟩
      | some f =>
        obtain ⟨r, h1, h2, h3⟩ := hi.got hf
        exact ⟨r, h2, h3, hi.all r (List.mem_of_getElem? h1), by simp, fun _ => h1⟩
    obtain ⟨h0no, h0at⟩ := h0at
    obtain ⟨P1, n1, d1, P2, n2, d2, hvb, hvo, hn1⟩ := cell5_slices h0ok
    have hn1' : n1 = lenF (fnd σ.fs n) := by rw [hn1, h0f, hlv]
    obtain ⟨bb, hbb⟩ : ∃ bb, bb = (fnd σ.fs n).isSome := ⟨_, rfl⟩
    obtain ⟨k, hk⟩ : ∃ k, k = posF σ.fs n := ⟨_, rfl⟩
    obtain ⟨sb, hsb⟩ : ∃ sb, sb = decide (r0.f.st = 2) := ⟨_, rfl⟩
    obtain ⟨hb0, hhb⟩ : ∃ hb0, hb0 = r0.had := ⟨_, rfl⟩
    obtain ⟨u, hu'⟩ : ∃ u, u = usedF σ.fs := ⟨_, rfl⟩
    rw [← hbb, ← hk] at hfind
    rw [← hk, ← hbb] at h0at
    rw [← hn1'] at hu2
    rw [← hu'] at hu hu2
    have hl5 : cell5 r0 = [.string (str n), .slice P1 n1 d1, .slice P2 n2 d2, .bool sb, .bool hb0] := by unfold cell5; rw [h0n, hvb, hvo, hsb, hhb]
    have hq1 := hi.blk.cell (i := 1) rfl
    have hq0 := hi.blk.cell (i := 0) rfl
    obtain ⟨Pf, capf, ef, hcapf, _, _⟩ := own_form hi.row
    subst ef
    have hfew := hi.ok.few
    have hNl : rs.length = σ.fs.length := by rw [hi.fs, ofF_len]
    have hN9 : rs.length ≤ 1000000 := by omega
    have Hi := Lib.hid hi
    have Hfind := Lib.hid hfind
    have H0no := Lib.hid h0no
    have H0at := Lib.hid h0at
    have H0n := Lib.hid h0n
    have H0f := Lib.hid h0f
    have H0ok := Lib.hid h0ok
    have Hl5 := Lib.hid hl5
    have Hbb := Lib.hid hbb
    have Hu' := Lib.hid hu'
    have Hn1 := Lib.hid hn1'
    have Hvb := Lib.hid hvb
    have Hvo := Lib.hid hvo
    have Hsb := Lib.hid hsb
    have Hhb := Lib.hid hhb
    have Hx := Lib.hid hx
    have HP := Lib.hid hP
    have Hk := Lib.hid hk
    obtain ⟨N, eN⟩ : ∃ N, N = rs.length := ⟨_, rfl⟩
    rw [← eN] at hq1 hcapf hN9
    have HeN := Lib.hid eN
    clear hnk hfind hi h0no h0at h0n h0f h0ok hl5 hbb hu' hn1' hn1 hvb hvo hsb hhb hx hP hk eN hfew hNl hlv
    go_enter Try.func18, Try.ntmps18
    go_wp2_with fail
    refine Hright.out.mono ?_
    rintro e w1 ⟨rfl, rfl⟩
    rw [Hnk.out]
    go_wp2_with fail
    refine Hfind.out.mono ?_
    rintro e w2 ⟨rfl, nq, rfl⟩
    have hb2 : Below w.heap.size w (w.drewN nq) := below_drewN (Below.refl _ _) nq
    have hz2 : (w.drewN nq).heap.size = w.heap.size := rfl
    have hq0 : (w.drewN nq).cell? ⟨q, 0, none⟩ = some (.int .i64 σ.lim) := hq0
    have hq1 : (w.drewN nq).cell? ⟨q, 1, none⟩ = some (.slice Pf N capf) := hq1
    have hR2 : RefAt (w.drewN nq) q σ c M A := ⟨_, _, _, Hi.out.drewN nq⟩
    generalize w.drewN nq = W2 at *
    have hused := rUsed_any (hR2.below ((Below.refl _ W2).alloc (Nat.le_refl _) (.cells #[.string (str n), .slice none 0 0, .slice none 0 0, .bool false, .bool false] 75))) (by omega)
    rw [← Hu'.out] at hused
    have Hused := Lib.hid hused
    have Hb2 := Lib.hid hb2
    have Hz2 := Lib.hid hz2
    have HR2 := Lib.hid hR2
    clear hb2 hz2 hR2 hused
    go_wp2_with fail
    refine Hused.out.mono ?_
    rintro e w3 ⟨rfl, hw3⟩
    have hb3 : Below W2.heap.size W2 w3 := hw3 ▸ (Below.refl _ W2).alloc (Nat.le_refl _) _
    have hx3 : Own 75 w3 W2.heap.size [.string (str n), .slice none 0 0, .slice none 0 0, .bool false, .bool false] := hw3 ▸ heap_alloc_new W2 _
    have hz3 : w3.heap.size = W2.heap.size + 1 := by rw [← hw3]; simp
    have hq0 : w3.cell? ⟨q, 0, none⟩ = some (.int .i64 σ.lim) := (Keeps.of_below hb3) _ _ hq0
    have hq1 : w3.cell? ⟨q, 1, none⟩ = some (.slice Pf N capf) := (Keeps.of_below hb3) _ _ hq1
    obtain ⟨b9, hb9⟩ : ∃ b9, b9 = W2.heap.size := ⟨_, rfl⟩
    rw [← hb9] at hx3 ⊢
    have Hb3 : Hid (Below w.heap.size w w3) := Lib.hid (Hb2.out.trans (hb3.mono Hb2.out.size))
    have Hx3 := Lib.hid hx3
    have H9 : Hid (w.heap.size ≤ b9 ∧ b9 < w3.heap.size) := Lib.hid ⟨by rw [hb9, Hz2.out]; exact Nat.le_refl _, by omega⟩
    clear hb3 hx3 hz3 hw3 hb9 Hused HR2
    go_upto_if 24 with (fail)
    go_cut [10] from 25 to 36 (fun t10 wx => t10 = .int .i64 ((u : Int) - (n1 : Int)) ∧ Own 75 wx b9 (cell5 r0) ∧ Below w.heap.size w wx ∧ b9 < wx.heap.size)
    case first =>
      cases bb with
      | true =>
        have hrk := H0at.out rfl
        obtain ⟨g, cap', e, _, _, _, hcs⟩ := (Hi.out.below Hb3.out).at_ hrk
        obtain ⟨e1, _, _⟩ := Value.slice.inj e
        subst e1
        rw [Hl5.out] at hcs
        have y0 : w3.cell? ⟨g, k * 5, none⟩ = some _ := hcs 0 _ rfl
        have y1 : w3.cell? ⟨g, k * 5 + 1, none⟩ = some _ := hcs 1 _ rfl
        have y2 : w3.cell? ⟨g, k * 5 + 2, none⟩ = some _ := hcs 2 _ rfl
        have y3 : w3.cell? ⟨g, k * 5 + 3, none⟩ = some _ := hcs 3 _ rfl
        have y4 : w3.cell? ⟨g, k * 5 + 4, none⟩ = some _ := hcs 4 _ rfl
        have x0 := Hx3.out.cell (i := 0) rfl
        have x1 := Hx3.out.cell (i := 1) rfl
        have x2 := Hx3.out.cell (i := 2) rfl
        have x3 := Hx3.out.cell (i := 3) rfl
        have x4 := Hx3.out.cell (i := 4) rfl
        have xf := Hx3.out.frozen
        have i0 : (0 : Int) ≤ (k : Int) := by omega
        have i1 : (k : Int) < (N : Int) := by have := (List.getElem?_eq_some_iff.1 hrk).1; have := HeN.out; omega
        have hbd : Below w.heap.size w (((((w3.setCell ⟨b9, 0, none⟩ (.string (str n))).setCell ⟨b9, 1, none⟩ (.slice P1 n1 d1)).setCell ⟨b9, 2, none⟩ (.slice P2 n2 d2)).setCell ⟨b9, 3, none⟩ (.bool sb)).setCell ⟨b9, 4, none⟩ (.bool hb0)) :=
          (((((Hb3.out.setCell (p := ⟨b9, 0, none⟩) H9.out.1 _).setCell (p := ⟨b9, 1, none⟩) H9.out.1 _).setCell (p := ⟨b9, 2, none⟩) H9.out.1 _).setCell (p := ⟨b9, 3, none⟩) H9.out.1 _).setCell (p := ⟨b9, 4, none⟩) H9.out.1 _)
        have hox : Own 75 (((((w3.setCell ⟨b9, 0, none⟩ (.string (str n))).setCell ⟨b9, 1, none⟩ (.slice P1 n1 d1)).setCell ⟨b9, 2, none⟩ (.slice P2 n2 d2)).setCell ⟨b9, 3, none⟩ (.bool sb)).setCell ⟨b9, 4, none⟩ (.bool hb0)) b9 (cell5 r0) := by
          rw [Hl5.out]
          exact ((((Hx3.out.set_ 0 _).set_ 1 _).set_ 2 _).set_ 3 _).set_ 4 _
        have Hbd := Lib.hid hbd
        have Hox := Lib.hid hox
        have hs9 := H9.out.2
        clear hrk hcs hbd hox e
        go_wp2
        go_meet
        exact ⟨rfl, Hox.out, Hbd.out, by simpa [World.setCell] using hs9⟩
      | false =>
        have hf : fnd σ.fs n = none := by
          have := Hbb.out
          cases hh : fnd σ.fs n with
          | none => rfl
          | some f => rw [hh] at this; cases this
        have hr := H0no.out hf
        have h5 : cell5 r0 = [.string (str n), .slice none 0 0, .slice none 0 0, .bool false, .bool false] := by rw [hr]; rfl
        have hn0 : n1 = 0 := by rw [Hn1.out, hf]; rfl
        have H5 := Lib.hid h5
        have Hn0 := Lib.hid hn0
        clear hf hr h5 hn0
        go_wp2
        go_meet
        rw [H5.out, Hn0.out]
        exact ⟨by simp, Hx3.out, Hb3.out, H9.out.2⟩
    case rest =>
    obtain ⟨rfl, hox, hbx, hs9⟩ := hcut
    rename World => w4
    have q0 : w4.cell? ⟨q, 0, none⟩ = some (.int .i64 σ.lim) := (Hi.out.blk.below hbx Hi.out.blk.lt).cell (i := 0) rfl
    have Hox := Lib.hid hox
    have Hbx := Lib.hid hbx
    have Hs9 := Lib.hid hs9
    clear hox hbx hs9 hq0 hq1
    by_cases hlt : σ.lim < (u : Int) - n1 + m
    · have e : σ.write n xs = (4, σ) := by unfold St.write; rw [if_neg (by simp [Hnk.out]), if_pos (by rw [← Hu'.out, ← Hn1.out, Hx.out.1]; exact hlt)]
      have He := Lib.hid e
      have dd1 : decide (σ.lim - ((u : Int) - n1) < (m : Int)) = true := by simp; omega
      clear hlt e
      go_wp2
      go_ret
      rw [He.out]
      exact RefPost.no H.out Hbx.out
    · have e : σ.write n xs = (0, σ.deed (putF σ.fs n (wrF (fnd σ.fs n) xs)) 1 n) := by unfold St.write; rw [if_neg (by simp [Hnk.out]), if_neg (by rw [← Hu'.out, ← Hn1.out, Hx.out.1]; exact hlt)]
      have He := Lib.hid e
      have dd1 : decide (σ.lim - ((u : Int) - n1) < (m : Int)) = false := by simp; omega
      clear hlt e
      have hox := Hox.out
      rw [Hl5.out] at hox
      have x0 := hox.cell (i := 0) rfl
      have x1 := hox.cell (i := 1) rfl
      have x2 := hox.cell (i := 2) rfl
      have x3 := hox.cell (i := 3) rfl
      have x4 := hox.cell (i := 4) rfl
      have xf := hox.frozen
      have Hox' := Lib.hid hox
      clear hox
      go_upto_if 47 with (fail)
      go_cut [] from 48 to 51 (fun wx => ∃ (P5 : Option Addr) (n5 d5 : Nat) (hd : Bool) (ox : List Int), Own 75 wx b9 [.string (str n), .slice P1 n1 d1, .slice P5 n5 d5, .bool sb, .bool hd] ∧ Below w.heap.size w wx ∧ b9 < wx.heap.size ∧ FB A w (.slice P5 n5 d5) ox ∧
        ((wrF (some r0.f) xs).st = 1 → hd = true ∧ ox = (wrF (some r0.f) xs).old) ∧ ((wrF (some r0.f) xs).st = 0 → hd = false))
      case first =>
        have hsb := Hsb.out
        cases sb with
        | true =>
          have h2 : r0.f.st = 2 := by simpa using hsb.symm
          have hw : wrF (some r0.f) xs = ⟨xs, 1, r0.f.b⟩ := by unfold wrF; dsimp only; rw [if_pos h2]
          have Hw := Lib.hid hw
          have hbd : Below w.heap.size w ((w4.setCell ⟨b9, 2, none⟩ (.slice P1 n1 d1)).setCell ⟨b9, 4, none⟩ (.bool true)) := (Hbx.out.setCell (p := ⟨b9, 2, none⟩) H9.out.1 _).setCell (p := ⟨b9, 4, none⟩) H9.out.1 _
          have hox : Own 75 ((w4.setCell ⟨b9, 2, none⟩ (.slice P1 n1 d1)).setCell ⟨b9, 4, none⟩ (.bool true)) b9 [.string (str n), .slice P1 n1 d1, .slice P1 n1 d1, .bool true, .bool true] := (Hox'.out.set_ 2 _).set_ 4 _
          have Hbd := Lib.hid hbd
          have Hoy := Lib.hid hox
          clear hsb h2 hw hbd hox
          go_wp2
          go_meet
          rw [Hw.out]
          exact ⟨P1, n1, d1, true, r0.f.b, Hoy.out, Hbd.out, by simpa [World.setCell] using Hs9.out, by rw [← Hvb.out]; exact H0ok.out.b, fun _ => ⟨rfl, rfl⟩, fun h => absurd (show (1 : Nat) = 0 from h) (by decide)⟩
        | false =>
          have h2 : r0.f.st ≠ 2 := by simpa using hsb.symm
          have hw : wrF (some r0.f) xs = ⟨xs, r0.f.st, r0.f.old⟩ := by unfold wrF; dsimp only; rw [if_neg h2]
          have Hw := Lib.hid hw
          clear hsb h2 hw
          go_wp2
          go_meet
          obtain ⟨ox, ho1, ho2⟩ := H0ok.out.o
          rw [Hw.out]
          exact ⟨P2, n2, d2, hb0, ox, Hox'.out, Hbx.out, Hs9.out, by rw [← Hvo.out]; exact ho1, by rw [Hhb.out]; exact ho2, by rw [Hhb.out]; exact H0ok.out.none_⟩
      case rest =>
      obtain ⟨P5, n5, d5, hd, ox, hox, hbx, hs9, ho1, ho2, ho3⟩ := hcut
      rename World => w5
      obtain ⟨Pa, ca, w6, hrun, hcp, hb6⟩ := copy_bytes w5 P m cap xs (Hx.out.keep (fun p v hp => by have := (Keeps.of_below hbx : Keeps w w5) p v hp; exact this)) (by omega) HP.out
      have hb6' : Below w.heap.size w w6 := hbx.trans (hb6.mono hbx.size)
      have hox6 : Own 75 w6 b9 [.string (str n), .slice P1 n1 d1, .slice P5 n5 d5, .bool sb, .bool hd] := hox.below hb6 hs9
      have y0 := hox6.cell (i := 0) rfl
      have y1 := hox6.cell (i := 1) rfl
      have y2 := hox6.cell (i := 2) rfl
      have y3 := hox6.cell (i := 3) rfl
      have y4 := hox6.cell (i := 4) rfl
      have yf := hox6.frozen
      -- the world that the put comes to
      obtain ⟨w7, hw7⟩ : ∃ w7, w7 = (w6.setCell ⟨b9, 1, none⟩ (.slice Pa m ca)).setCell ⟨b9, 3, none⟩ (.bool false) := ⟨_, rfl⟩
      have hb7 : Below w.heap.size w w7 := hw7 ▸ (hb6'.setCell (p := ⟨b9, 1, none⟩) H9.out.1 _).setCell (p := ⟨b9, 3, none⟩) H9.out.1 _
      have hox7 : Own 75 w7 b9 [.string (str n), .slice Pa m ca, .slice P5 n5 d5, .bool false, .bool hd] := hw7 ▸ (hox6.set_ 1 _).set_ 3 _
      have hz7 : w7.heap.size = w6.heap.size := by rw [hw7]; simp [World.setCell]
      have hcp7 : FB (Grw A w w7) w7 (.slice Pa m ca) xs := by
        have h1 : w7.ownsRow w5.heap.size 5 1 (.slice Pa m ca) m (byts xs) := hw7 ▸ own_set (own_set hcp (Ty.of hox6) (by decide) _ _) ((Ty.of hox6).set _ _) (by decide) _ _
        have h2 := own_mono h1 hbx.size
        exact FB.new h2 Hx.out.1
      obtain ⟨r2, hr2⟩ : ∃ r2 : RFv, r2 = ⟨n, wrF (some r0.f) xs, .slice Pa m ca, .slice P5 n5 d5, hd⟩ := ⟨_, rfl⟩
      have hst2 : r2.f.st ≠ 2 := by
        rw [hr2]
        show (wrF (some r0.f) xs).st ≠ 2
        unfold wrF
        dsimp only
        split
        · show (1 : Nat) ≠ 2; decide
        · assumption
      have hfb : (wrF (some r0.f) xs).b = xs := by unfold wrF; dsimp only; split <;> rfl
      have hok2 : ROk (Grw A w w7) w7 r2 := by
        subst hr2
        exact ⟨by show FB _ _ _ (wrF (some r0.f) xs).b; rw [hfb]; exact hcp7, ⟨ox, (ho1.below hb7).grw, ho2⟩, ho3⟩
      have hfok : r2.f.ok := by
        rw [hr2]
        show (wrF (some r0.f) xs).ok
        rw [H0f.out, wrF_valF]
        exact wrF_ok (fun f hf => (Hi.out.ok.fnd hf).1) ⟨by rw [Hx.out.1]; omega, Hx.out.2.1⟩
      have ha5 : agg5 r2 = .agg #[.string (str n), .slice Pa m ca, .slice P5 n5 d5, .bool false, .bool hd] := by
        have : decide (r2.f.st = 2) = false := decide_eq_false hst2
        unfold agg5 cell5
        rw [this, hr2]
      have hR7 := (Hi.out.below hb7).mono (M' := M) (A' := Grw A w w7) (fun _ h => h) (fun _ h => .inl h) (fun k hk => Nat.lt_of_lt_of_le (Hi.out.ml k hk) hb7.size) (grw_bd Hi.out.al hb7.size) (Nat.le_refl c)
      have hput := rput_any r2 hR7 hok2 hfok (by rw [hr2]; exact Hnk.out) (by omega)
      rw [ha5] at hput
      have hfin : putF σ.fs r2.n r2.f = putF σ.fs n (wrF (fnd σ.fs n) xs) := by rw [hr2]; show putF σ.fs n (wrF (some r0.f) xs) = _; rw [H0f.out, wrF_valF]
      rw [hfin] at hput
      have Hput := Lib.hid hput
      have Hb7 := Lib.hid hb7
      have Hrun := Lib.hid hrun
      have Hw7 := Lib.hid hw7
      have z0 := hox7.cell (i := 0) rfl
      have z1 := hox7.cell (i := 1) rfl
      have z2 := hox7.cell (i := 2) rfl
      have z3 := hox7.cell (i := 3) rfl
      have z4 := hox7.cell (i := 4) rfl
      clear hrun hcp hb6 hb6' hox hbx hs9 ho1 ho2 ho3 hox6 hw7 hb7 hox7 hz7 hcp7 hr2 hst2 hfb hok2 hfok ha5 hR7 hput hfin x0 x1 x2 x3 x4 xf
      go_wp2_with (at_builtin; have _t := Hrun; refine wpList_append_eq rfl (.tmp 52) (.tmp 53) 23 rfl _ _ _ _ rfl rfl Hrun.out ?_; clear _t Hrun)
      rw [← Hw7.out]
      refine Hput.out.mono ?_
      rintro e w8 ⟨rfl, h8, t8⟩
      have hops : σ.ops.length + 1 ≤ c + 1 := Nat.succ_le_succ Hi.out.ok.ops
      have Hdone := Lib.hid (rdone_any w8 q (c + 1) _ _ _ 1 n h8 Hnk.out (by omega) hops (by omega))
      have T8 := Lib.hid t8
      clear h8 t8 hops z0 z1 z2 z3 z4
      go_wp2_with fail
      refine Hdone.out.mono ?_
      rintro e w9 ⟨rfl, h9, t9⟩
      have H9' := Lib.hid h9
      have T9 := Lib.hid t9
      clear h9 t9
      go_wp2
      go_ret
      rw [He.out]
      exact RefPost.chain H.out (Tch.of_below M Hb7.out) T8.out H9'.out T9.out rfl
end Go.Proofs.Ytgkgkekgmcldmaa
