/- The reference's face: Sync, Remove, Publish. -/
import Derived.Test.YtgkgkekgmcldmaaRo7
namespace Go.Proofs.Ytgkgkekgmcldmaa
open Go.RowKit
theorem set_same {α : Type} : ∀ {l : List α} {i : Nat} {x : α}, l[i]? = some x → l.set i x = l
  | y :: t, 0, x, h => by simp at h; simp [h]
  | y :: t, i + 1, x, h => by rw [List.set_cons_succ, set_same (by simpa using h)]
theorem sync_turn {w : World} {q c g cap k : Nat} {σ : St} {M A : Nat → Prop} {lv : Value} {rs : List RFv} {n : Nm} {f : SF} {r : RFv} (hi : RefIn w q σ c M A (.slice (some ⟨g, 0, none⟩) rs.length cap) lv rs) (hrk : rs[k]? = some r) (hrn : r.n = n) (hrf : r.f = f) (hk : k = posF σ.fs n) (hff : fnd σ.fs n = some f) :
    RefIn (w.setCell ⟨g, k * 5 + 3, none⟩ (.bool true)) q (σ.with (putF σ.fs n (sureF f.b))) (c + 1) (Grw M w (w.setCell ⟨g, k * 5 + 3, none⟩ (.bool true))) (Grw A w (w.setCell ⟨g, k * 5 + 3, none⟩ (.bool true))) (.slice (some ⟨g, 0, none⟩) rs.length cap) lv (rs.set k ⟨r.n, sureF f.b, r.vb, r.vo, r.had⟩) := by
  have hnk : nameOk n = true := (hi.ok.fnd hff).2
  have hfok := (hi.ok.fnd hff).1
  have hfk : σ.fs[k]? = some (r.n, r.f) := by have := ofF_at hrk; rwa [← hi.fs] at this
  have hput := put_pos_yes (fs := σ.fs) (n := n) (sureF f.b) (p := (r.n, r.f)) (hk ▸ hfk) hrn
  rw [← hk] at hput
  have hkN := (List.getElem?_eq_some_iff.1 hrk).1
  have tyg : Ty w g 75 := by
    rcases hi.row.2 with ⟨e, _⟩ | ⟨g', c', cur, e, _, hh, _⟩
    · cases e
    · obtain ⟨e1, _, _⟩ := Value.slice.inj e
      injection e1 with e1
      injection e1 with e1
      subst e1
      exact ⟨_, _, hh⟩
  have hgq : g ≠ q := by
    intro e
    subst e
    obtain ⟨cur, fr, hh⟩ := tyg
    have hb := hi.blk
    unfold Own at hb
    rw [hh] at hb
    injection hb with hb
    injection hb with _ hb
    exact absurd hb (by decide)
  have hr := hi.all r (List.mem_of_getElem? hrk)
  have hon := only_setCell g w (k * 5 + 3) (.bool true)
  have hby : Bys w (w.setCell ⟨g, k * 5 + 3, none⟩ (.bool true)) := bys_set tyg (by decide) _ _
  refine hi.turn (by simp [World.setCell]) (hi.ok.putW hnk (sureF_ok hfok.b)) ?_ (hi.blk.only hon (Ne.symm hgq)) (fun r' hr' => ?_) ?_ (own_stay hi.ops fun j e => hon.block j (hi.ops.lt j e).2 fun e2 => ops_ty hi.ops tyg (by decide) j e e2) (fun j e => .inl (hi.mf j e)) (fun j e => .inl (hi.mo j e))
  · show putF σ.fs n (sureF f.b) = _
    rw [hput, hi.fs]
    simp [ofF, List.map_set, hrn]
  · rcases List.mem_or_eq_of_mem_set hr' with h0 | h0
    · exact ((hi.all r' h0).bys hby).mono fun _ h => .inl h
    · subst h0
      have h1 : ROk A w ⟨r.n, sureF f.b, r.vb, r.vo, r.had⟩ := by
        obtain ⟨ox, ho, _⟩ := hr.o
        refine ⟨?_, ⟨ox, ho, fun h => absurd (show (2 : Nat) = 1 from h) (by decide)⟩, fun h => absurd (show (2 : Nat) = 0 from h) (by decide)⟩
        show FB A w r.vb f.b
        rw [← hrf]
        exact hr.b
      exact (h1.bys hby).mono fun _ h => .inl h
  · have h1 := own_write hi.row (i := k * 5 + 3) (.bool true)
    have h2 : (rCells rs).set (k * 5 + 3) (.bool true) = rCells (rs.set k ⟨r.n, sureF f.b, r.vb, r.vo, r.had⟩) := by
      rw [← set5 _ hkN]
      have hc0 := rCells_at hrk 0 (by omega)
      have hc1 := rCells_at hrk 1 (by omega)
      have hc2 := rCells_at hrk 2 (by omega)
      have hc4 := rCells_at hrk 4 (by omega)
      simp only [cell5, List.getElem?_cons_zero, List.getElem?_cons_succ, Nat.add_zero] at hc0 hc1 hc2 hc4
      have s0 : (rCells rs).set (k * 5) (.string (str r.n)) = rCells rs := set_same hc0
      have s1 : (rCells rs).set (k * 5 + 1) r.vb = rCells rs := set_same hc1
      have s2 : (rCells rs).set (k * 5 + 2) r.vo = rCells rs := set_same hc2
      show _ = (((((rCells rs).set (k * 5) (.string (str r.n))).set (k * 5 + 1) r.vb).set (k * 5 + 2) r.vo).set (k * 5 + 3) (.bool (decide ((sureF f.b).st = 2)))).set (k * 5 + 4) (.bool r.had)
      rw [s0, s1, s2]
      have s4 : ((rCells rs).set (k * 5 + 3) (.bool true))[k * 5 + 4]? = some (.bool r.had) := by rw [List.getElem?_set_ne (by omega)]; exact hc4
      exact (set_same s4).symm
    rw [h2] at h1
    rw [List.length_set]
    exact h1

set_option maxRecDepth 100000 in
set_option maxHeartbeats 4000000 in
theorem rSync_any {w : World} {q c : Nat} {σ : St} {M A : Nat → Prop} (n : Nm) (h : RefAt w q σ c M A) (hc : c ≤ 999998) :
    Calls Try.prog 16 #[.pointer (some ⟨q, 0, none⟩), .string (str n)] w (RefPost q (σ.sync n).2 (c + 1) M A (.int .i64 (σ.sync n).1) w) := by
  have hfind := find_any n h (by omega)
  have H := Lib.hid h
  cases hff : fnd σ.fs n with
  | none =>
    have e : σ.sync n = (5, σ) := by unfold St.sync; rw [hff]
    rw [e]
    rw [hff] at hfind
    have Hfind := Lib.hid hfind
    clear hfind h hff e
    go_enter Try.func16, Try.ntmps16
    go_wp2_with fail
    refine Hfind.out.mono ?_
    rintro e w2 ⟨rfl, nq, rfl⟩
    simp only [Option.isSome_none]
    go_wp2
    go_ret
    exact RefPost.no H.out (below_drewN (Below.refl _ _) _)
  | some f =>
    have e : σ.sync n = (0, σ.deed (putF σ.fs n (sureF f.b)) 2 n) := by unfold St.sync; rw [hff]
    rw [e]
    rw [hff] at hfind
    obtain ⟨fv, lv, rs, hi⟩ := h
    obtain ⟨r, hrk, hrn, hrf⟩ := hi.got hff
    have hnk : nameOk n = true := (hi.ok.fnd hff).2
    obtain ⟨k, hk⟩ : ∃ k, k = posF σ.fs n := ⟨_, rfl⟩
    rw [← hk] at hfind hrk
    obtain ⟨g, cap, ev, hMg, hcap, _, _⟩ := hi.at_ hrk
    subst ev
    have hkN := (List.getElem?_eq_some_iff.1 hrk).1
    have hN9 : rs.length ≤ 1000000 := by have := hi.ok.few; rw [hi.fs, ofF_len] at this; omega
    have Hfind := Lib.hid hfind
    have Hi := Lib.hid hi
    have Hff := Lib.hid hff
    have Hrk := Lib.hid hrk
    have Hrn := Lib.hid hrn
    have Hrf := Lib.hid hrf
    have Hnk := Lib.hid hnk
    have Hk := Lib.hid hk
    have HMg := Lib.hid hMg
    clear hfind hff e hi hrk hrn hrf hnk hk hMg
    go_enter Try.func16, Try.ntmps16
    go_wp2_with fail
    refine Hfind.out.mono ?_
    rintro e w2 ⟨rfl, nq, rfl⟩
    simp only [Option.isSome_some]
    have hiW := (Hi.out.drewN nq).mono (M' := M) (A' := Grw A w (w.drewN nq)) (fun _ h => h) (fun _ h => .inl h) Hi.out.ml (grw_bd Hi.out.al (Nat.le_refl _)) (Nat.le_refl c)
    have htW : Tch M w (w.drewN nq) := (Tch.refl M w).drewN nq
    generalize w.drewN nq = W at hiW htW ⊢
    have hfin := sync_turn hiW Hrk.out Hrn.out Hrf.out Hk.out Hff.out
    have htch : Tch M W (W.setCell ⟨g, k * 5 + 3, none⟩ (.bool true)) := Tch.setCell HMg.out _ _ _
    have hdone := rdone_any _ q (c + 1) _ _ _ 2 n ⟨_, _, _, hfin⟩ Hnk.out (by omega) (Nat.succ_le_succ hiW.ok.ops) (by omega)
    obtain ⟨_, _, ev, _, _, _, hcs⟩ := hiW.at_ Hrk.out
    obtain ⟨e1, _, _⟩ := Value.slice.inj ev
    injection e1 with e1
    injection e1 with e1
    subst e1
    have y3 : W.cell? ⟨g, k * 5 + 3, none⟩ = some _ := hcs 3 _ rfl
    have yf := own_free hiW.row
    have q1 := hiW.blk.cell (i := 1) rfl
    have i0 : (0 : Int) ≤ (k : Int) := by omega
    have i1 : (k : Int) < (rs.length : Int) := by omega
    have Hdone := Lib.hid hdone
    have Htch := Lib.hid htch
    have HtW := Lib.hid htW
    generalize decide (r.f.st = 2) = sb at y3
    clear hfin htch hdone hcs hiW htW Hi Hff Hrk Hrn Hrf Hnk Hk HMg ev
    go_wp2_with fail
    refine Hdone.out.mono ?_
    rintro e w9 ⟨rfl, h9, t9⟩
    have H9 := Lib.hid h9
    have T9 := Lib.hid t9
    clear h9 t9
    go_wp2
    go_ret
    exact RefPost.chain H.out HtW.out Htch.out H9.out T9.out rfl
set_option maxRecDepth 100000 in
set_option maxHeartbeats 4000000 in
theorem rRemove_any {w : World} {q c : Nat} {σ : St} {M A : Nat → Prop} (n : Nm) (h : RefAt w q σ c M A) (hc : c ≤ 999998) :
    Calls Try.prog 29 #[.pointer (some ⟨q, 0, none⟩), .string (str n)] w (RefPost q (σ.remove n).2 (c + 1) M A (.int .i64 (σ.remove n).1) w) := by
  have hfind := find_any n h (by omega)
  have H := Lib.hid h
  cases hff : fnd σ.fs n with
  | none =>
    have e : σ.remove n = (5, σ) := by unfold St.remove; rw [hff]
    rw [e]
    rw [hff] at hfind
    have Hfind := Lib.hid hfind
    clear hfind h hff e
    go_enter Try.func29, Try.ntmps29
    go_wp2_with fail
    refine Hfind.out.mono ?_
    rintro e w2 ⟨rfl, nq, rfl⟩
    simp only [Option.isSome_none]
    go_wp2
    go_ret
    exact RefPost.no H.out (below_drewN (Below.refl _ _) _)
  | some f =>
    have e : σ.remove n = (0, σ.deed (dropF σ.fs n) 4 n) := by unfold St.remove; rw [hff]
    rw [e]
    rw [hff] at hfind
    obtain ⟨fv, lv, rs, hi⟩ := h
    have hnk : nameOk n = true := (hi.ok.fnd hff).2
    have Hfind := Lib.hid hfind
    have Hi := Lib.hid hi
    have Hff := Lib.hid hff
    have Hnk := Lib.hid hnk
    clear hfind hff e hi hnk
    go_enter Try.func29, Try.ntmps29
    go_wp2_with fail
    refine Hfind.out.mono ?_
    rintro e w2 ⟨rfl, nq, rfl⟩
    simp only [Option.isSome_some]
    have hiW := (Hi.out.drewN nq).mono (M' := M) (A' := Grw A w (w.drewN nq)) (fun _ h => h) (fun _ h => .inl h) Hi.out.ml (grw_bd Hi.out.al (Nat.le_refl _)) (Nat.le_refl c)
    have htW : Tch M w (w.drewN nq) := (Tch.refl M w).drewN nq
    generalize w.drewN nq = W at hiW htW ⊢
    have hdrop := rdrop_any n hiW (by omega) (by rw [Hff.out]; rfl)
    have Hdrop := Lib.hid hdrop
    have HtW := Lib.hid htW
    have Hops := Lib.hid (show σ.ops.length + 1 ≤ c + 1 from Nat.succ_le_succ hiW.ok.ops)
    clear hdrop hiW htW Hi Hff
    go_wp2_with fail
    refine Hdrop.out.mono ?_
    rintro e w3 ⟨rfl, h3, t3, -⟩
    have hdone := rdone_any w3 q (c + 1) _ _ _ 4 n (h3.mono (fun _ h => h) (fun _ h => h) h3.ml h3.al (Nat.le_succ c)) Hnk.out (by omega) Hops.out (by omega)
    have Hdone := Lib.hid hdone
    have T3 := Lib.hid t3
    clear hdone h3 t3
    go_wp2_with fail
    refine Hdone.out.mono ?_
    rintro e w9 ⟨rfl, h9, t9⟩
    have H9 := Lib.hid h9
    have T9 := Lib.hid t9
    clear h9 t9
    go_wp2
    go_ret
    exact RefPost.chain H.out HtW.out T3.out H9.out T9.out rfl
end Go.Proofs.Ytgkgkekgmcldmaa
