/- The reference's Crash. -/
import Derived.Test.YtgkgkekgmcldmaaRo9
namespace Go.Proofs.Ytgkgkekgmcldmaa
open Go.RowKit
theorem rslice_to (a : Option Addr) (m c n : Nat) (hn : n ≤ c) (h0 : a = none → m = 0 ∧ c = 0) (W : World) : (Instr.slice 23 (.slice a m c) none (some (.int .i64 (n : Int))) none).run Try.prog W = .ok (.slice a n c) W := by
  cases a with
  | some ad => exact slice0n Try.underlying23 1 Try.sizeOf5 ad m c n hn W
  | none =>
    obtain ⟨rfl, rfl⟩ := h0 rfl
    obtain rfl : n = 0 := by omega
    kernel_rfl
theorem step_not {f : SF} {kp : List Int} {t : Nat} (h : f.st ≠ 2) : stepK f (kp.drop t) = ((kp.drop t).headD 0, kp.drop (t + 1)) := by
  unfold stepK
  rw [if_neg h, List.tail_drop]
theorem step_yes {f : SF} {kp : List Int} (h : f.st = 2) : stepK f kp = (0, kp) := by
  unfold stepK
  rw [if_pos h]
theorem headD_at {kp : List Int} {t : Nat} {x : Int} (h : kp[t]? = some x) : (kp.drop t).headD 0 = x := by
  rw [List.headD_eq_head?_getD, List.head?_drop, h]; rfl
theorem headD_none {kp : List Int} {t : Nat} (h : kp.length ≤ t) : (kp.drop t).headD 0 = 0 := by
  rw [List.headD_eq_head?_getD, List.head?_drop, List.getElem?_eq_none h]; rfl
theorem ROk.parts {A : Nat → Prop} {w : World} {r : RFv} (h : ROk A w r) (hf : r.f.ok) : ∃ P1 d1 P2 n2 d2, r.vb = .slice P1 r.f.b.length d1 ∧ r.vo = .slice P2 n2 d2 ∧ Nums .u8 w P1 r.f.b.length r.f.b ∧ r.f.b.length ≤ d1 ∧ (P1 = none → r.f.b.length = 0 ∧ d1 = 0) ∧
    (r.f.st = 1 → r.had = true ∧ Nums .u8 w P2 n2 r.f.old ∧ n2 ≤ 1000 ∧ (P2 = none → d2 = 0)) ∧ (r.f.st = 0 → r.had = false) := by
  obtain ⟨h1, ⟨ox, h2, h3⟩, h4⟩ := h
  obtain ⟨P1, d1, hv, hc, _, hn⟩ := h1.form hf.b.2
  obtain ⟨P2, d2, hv2⟩ := h2.sized
  refine ⟨P1, d1, P2, ox.length, d2, hv, hv2, hn, hc, fun e => ?_, fun e => ?_, h4⟩
  · rcases own_form0 h1.1 with ⟨e1, e2⟩ | ⟨g, c, e1, _⟩
    · rw [hv] at e1
      injection e1 with _ _ e3
      exact ⟨e2, e3⟩
    · rw [hv, e] at e1
      injection e1 with e1 _ _
      cases e1
  · obtain ⟨e1, e2⟩ := h3 e
    subst e2
    obtain ⟨P3, d3, hv3, _, _, hn3⟩ := h2.form hf.old.2
    rw [hv2] at hv3
    injection hv3 with e4 _ _
    subst e4
    refine ⟨e1, hn3, hf.old.1, fun e => ?_⟩
    rcases own_form0 h2.1 with ⟨e5, e6⟩ | ⟨g, c, e5, _⟩
    · rw [hv2] at e5
      injection e5 with _ _ e7
    · rw [hv2, e] at e5
      injection e5 with e5 _ _
      cases e5
/-- What the reference's Crash has of a file when it puts it. -/
def CrR (w W5 : World) (σ : St) (kp : List Int) (k : Nat) (acc : Fs) (nm : Nm) (t6 t9 t10 : Value) (wx : World) : Prop :=
  ∃ (kt : Nat) (P : Option Addr) (n d : Nat) (xs : List Int) (is : Bool) (nq : Nat), t6 = .int .i64 (kt : Int) ∧ kt ≤ k + 1 ∧ t9 = .slice P n d ∧ t10 = .bool is ∧ crashF σ.fs kp [] = crashF (σ.fs.drop (k + 1)) (kp.drop kt) (putO acc nm (if is = true then some xs else none)) ∧
    (is = true → Nums .u8 w P n xs ∧ n ≤ 1000 ∧ (P = none → d = 0)) ∧ W5.drewN nq = wx
set_option maxRecDepth 100000 in
set_option maxHeartbeats 4000000 in
theorem rCrash_any {w : World} {q c : Nat} {σ : St} {M A : Nat → Prop} (Pk : Option Addr) (mk ck : Nat) (kp : List Int) (h : RefAt w q σ c M A) (hc : c ≤ 999997) (hk : Nums .i64 w Pk mk kp) (hck : mk ≤ 1000000) :
    Calls Try.prog 20 #[.pointer (some ⟨q, 0, none⟩), .slice Pk mk ck] w fun e w' => e = .returned (.pointer (some ⟨w.heap.size, 0, none⟩)) ∧ RefAt w' w.heap.size (σ.crash kp) c (Grw (fun _ => False) w w') (Grw (fun _ => False) w w') ∧ Below w.heap.size w w' := by
  obtain ⟨fv, lv, rs, hi⟩ := h
  obtain ⟨hl1, hl2⟩ := hi.ok.lim
  have hq0 := hi.blk.cell (i := 0) rfl
  have hql := hi.ml q hi.mq
  have hfs := hi.fs
  have hfew : rs.length ≤ c := by have := hi.ok.few; rwa [hfs, ofF_len] at this
  obtain ⟨Pf, cap, ev, hcap, hcap2, _⟩ := own_form hi.row
  subst ev
  obtain ⟨N, hN⟩ : ∃ N, N = rs.length := ⟨_, rfl⟩
  have hNf : N = σ.fs.length := by rw [hN, hfs, ofF_len]
  rw [← hN] at hcap hfew
  have Hi := Lib.hid hi
  have Hk := Lib.hid hk
  have HN := Lib.hid hN
  have HNf := Lib.hid hNf
  have Hfs := Lib.hid hfs
  clear hi hk hN hNf hfs hcap2
  go_enter Try.func20, Try.ntmps20
  go_wp2_with fail
  refine (rNew_any σ.lim w).mono ?_
  rintro e w1 ⟨rfl, hw1⟩
  have hs0 := RefAt.new w σ.lim ⟨hl1, hl2⟩
  rw [← hw1] at hs0
  have hb1 : Below w.heap.size w w1 := hw1 ▸ (Below.refl _ w).alloc (Nat.le_refl _) _
  have hz1 : w1.heap.size = w.heap.size + 1 := by rw [hw1]; simp
  have Hs0 := Lib.hid hs0
  have Hb1 := Lib.hid hb1
  have Hz1 := Lib.hid hz1
  obtain ⟨p, hp⟩ : ∃ p, p = w.heap.size := ⟨_, rfl⟩
  rw [← hp] at Hs0 ⊢
  have Hp := Lib.hid hp
  clear hw1 hs0 hb1 hz1 hq0 hp
  go_wp2_with fail
  go_loopw [6, 7] (fun t i wr => ∃ (k kt : Nat) (acc : Fs), k ≤ N ∧ kt ≤ k ∧ i = .int .i64 k ∧ t = .int .i64 kt ∧ crashF σ.fs kp [] = crashF (σ.fs.drop k) (kp.drop kt) acc ∧
    RefAt wr p ⟨σ.lim, acc, []⟩ k (Grw (fun j => j = p) w1 wr) (Grw (fun _ => False) w1 wr) ∧ Tch (fun j => j = p) w1 wr) (fun _ i _ => N - (intOf i).toNat)
  case atStart =>
    refine ⟨0, 0, [], by omega, by omega, rfl, rfl, rfl, ?_, Tch.refl _ _⟩
    exact Hs0.out.mono (fun k hk => .inl hk) (fun k hk => hk.elim) (grw_bd (fun k hk => by subst hk; have := Hz1.out; have := Hp.out; omega) (Nat.le_refl _)) (grw_bd (fun k hk => hk.elim) (Nat.le_refl _)) (Nat.le_refl _)
  case round =>
    obtain ⟨k, kt, acc, hkN, hkt, rfl, rfl, hcr, hR, hT⟩ := hrel
    rename World => wr
    have Hcr := Lib.hid hcr
    have HR := Lib.hid hR
    have HT := Lib.hid hT
    clear hcr hR hT
    have hbw : Below w.heap.size w wr := Hb1.out.trans (HT.out.below (fun j hj => by have := Hp.out; omega) (by have := Hz1.out; omega))
    have Hbw := Lib.hid hbw
    clear hbw
    by_cases hlt : k < N
    · obtain ⟨r, hrk⟩ : ∃ r, rs[k]? = some r := ⟨_, List.getElem?_eq_getElem (by have := HN.out; omega)⟩
      have hiw := Hi.out.below Hbw.out
      obtain ⟨g, cap', ev, _, _, _, hcs⟩ := hiw.at_ hrk
      obtain ⟨e1, _, _⟩ := Value.slice.inj ev
      subst e1
      have hfk : σ.fs[k]? = some (r.n, r.f) := by have := ofF_at hrk; rwa [← Hfs.out] at this
      have hmem := List.mem_of_getElem? hfk
      have hnk : nameOk r.n = true := Hi.out.ok.names _ hmem
      have hfok : r.f.ok := Hi.out.ok.files _ hmem
      obtain ⟨P1, d1, P2, n2, d2, hvb, hvo, hnb, hbd, hb0, ho1, ho0⟩ := (Hi.out.all r (List.mem_of_getElem? hrk)).parts hfok
      have hb1000 := hfok.b.1
      obtain ⟨n1, hn1⟩ : ∃ n1, n1 = r.f.b.length := ⟨_, rfl⟩
      rw [← hn1] at hvb hnb hbd hb0 hb1000
      have y0 : wr.cell? ⟨g, k * 5, none⟩ = some (.string (str r.n)) := hcs 0 _ rfl
      have y1 : wr.cell? ⟨g, k * 5 + 1, none⟩ = some (.slice P1 n1 d1) := by have := hcs 1 _ rfl; rwa [hvb] at this
      have y2 : wr.cell? ⟨g, k * 5 + 2, none⟩ = some (.slice P2 n2 d2) := by have := hcs 2 _ rfl; rwa [hvo] at this
      obtain ⟨sb, hsb⟩ : ∃ sb, sb = decide (r.f.st = 2) := ⟨_, rfl⟩
      have y3 : wr.cell? ⟨g, k * 5 + 3, none⟩ = some (.bool sb) := by have := hcs 3 _ rfl; rwa [← hsb] at this
      have y4 : wr.cell? ⟨g, k * 5 + 4, none⟩ = some (.bool r.had) := hcs 4 _ rfl
      have hq1 : wr.cell? ⟨q, 1, none⟩ = some (.slice (some ⟨g, 0, none⟩) N cap) := by have := hiw.blk.cell (i := 1) rfl; rwa [← HN.out] at this
      have hcs2 : crashF σ.fs kp [] = crashF (σ.fs.drop (k + 1)) (stepK r.f (kp.drop kt)).2 (putO acc r.n (lf r.f (stepK r.f (kp.drop kt)).1)) := by
        rw [Hcr.out, List.drop_eq_getElem_cons (by have := HNf.out; omega), show σ.fs[k]'(by have := HNf.out; omega) = (r.n, r.f) from by
          have := List.getElem?_eq_some_iff.1 hfk
          exact this.2, crash_step]
      have hi0 : (k : Int) < (N : Int) := by omega
      have hi1 : (0 : Int) ≤ (k : Int) := by omega
      have dk : decide (k < N) = true := by simp; omega
      have Hcs2 := Lib.hid hcs2
      have Hnk := Lib.hid hnk
      have Hfok := Lib.hid hfok
      have Hnb := Lib.hid hnb
      have Hb0 := Lib.hid hb0
      have Ho1 := Lib.hid ho1
      have Ho0 := Lib.hid ho0
      have Hsb := Lib.hid hsb
      have Hn1 := Lib.hid hn1
      generalize hhad : r.had = had at y4 Ho1 Ho0
      generalize hnm : r.n = nm at *
      clear hcs hfk hmem hnk hfok hnb hb0 ho1 ho0 hsb hn1 hcs2 Hcr hvb hvo hrk hiw ev hhad hnm
      go_upto_region 8 with (fail)
      have hb5 : Below wr.heap.size wr (wr.alloc (.cells #[.string (str nm), .slice P1 n1 d1, .slice P2 n2 d2, .bool sb, .bool had] 75)) := (Below.refl _ _).alloc (Nat.le_refl _) _
      have hbx : Own 75 (wr.alloc (.cells #[.string (str nm), .slice P1 n1 d1, .slice P2 n2 d2, .bool sb, .bool had] 75)) wr.heap.size [.string (str nm), .slice P1 n1 d1, .slice P2 n2 d2, .bool sb, .bool had] := heap_alloc_new wr _
      have hz5 : (wr.alloc (.cells #[.string (str nm), .slice P1 n1 d1, .slice P2 n2 d2, .bool sb, .bool had] 75)).heap.size = wr.heap.size + 1 := by simp
      generalize wr.alloc (.cells #[.string (str nm), .slice P1 n1 d1, .slice P2 n2 d2, .bool sb, .bool had] 75) = W5 at hb5 hbx hz5 ⊢
      have x0 := hbx.cell (i := 0) rfl
      have x1 := hbx.cell (i := 1) rfl
      have x2 := hbx.cell (i := 2) rfl
      have x3 := hbx.cell (i := 3) rfl
      have x4 := hbx.cell (i := 4) rfl
      have Hb5 := Lib.hid hb5
      have Hbx := Lib.hid hbx
      have Hz5 := Lib.hid hz5
      clear hb5 hbx hz5 hq1 y0 y1 y2 y3 y4 hi0 hi1 dk
      go_upto_if 37 with (fail)
      go_cut [6, 9, 10, 11] from 38 to 63 (fun t6 t9 t10 t11 wx => CrR w W5 σ kp k acc nm t6 t9 t10 wx)
      case first =>
        have hsb := Hsb.out
        cases sb with
        | true =>
          have h2 : r.f.st = 2 := by simpa using hsb.symm
          have hcs := Hcs2.out
          rw [step_yes h2] at hcs
          have hl : lf r.f 0 = some r.f.b := by unfold lf; rw [if_pos h2]
          have hfin : CrR w W5 σ kp k acc nm (.int .i64 (kt : Int)) (.slice P1 n1 d1) (.bool true) W5 := ⟨kt, P1, n1, d1, r.f.b, true, 0, rfl, by omega, rfl, rfl, by rw [hcs, hl]; rfl, fun _ => ⟨Hnb.out, hb1000, fun e => (Hb0.out e).2⟩, rfl⟩
          have Hfin := Lib.hid hfin
          clear hsb h2 hcs hl hfin
          go_wp2
          go_meet
          exact Hfin.out
        | false =>
          have h2 : r.f.st ≠ 2 := by simpa using hsb.symm
          have hcs := Hcs2.out
          rw [step_not h2] at hcs
          have hl : ∀ x, lf r.f x = leftF r.f x := fun x => by unfold lf; rw [if_neg h2]
          rw [hl] at hcs
          have Hcs := Lib.hid hcs
          have H2 := Lib.hid h2
          clear hsb h2 hcs hl
          -- what is left, by the number
          have way : ∀ (j : Int), (kp.drop kt).headD 0 = j → crashF σ.fs kp [] = crashF (σ.fs.drop (k + 1)) (kp.drop (kt + 1)) (putO acc nm (leftF r.f j)) := fun j e => by rw [← e]; exact Hcs.out
          have other : ∀ (j : Int), (kp.drop kt).headD 0 = j → j ≠ 1 → j ≠ 2 → ∀ nq, CrR w W5 σ kp k acc nm (.int .i64 ((kt : Int) + 1)) (.slice P2 n2 d2) (.bool had) (W5.drewN nq) := fun j e n1' n2' nq => by
            have hc := way j e
            unfold leftF at hc
            rw [if_neg n1', if_neg n2'] at hc
            have hst := Hfok.out.st
            by_cases h1 : r.f.st = 1
            · obtain ⟨e1, e2, e3, e4⟩ := Ho1.out h1
              rw [if_pos h1] at hc
              exact ⟨kt + 1, P2, n2, d2, r.f.old, had, nq, by go_num, by omega, rfl, rfl, by rw [hc, e1]; rfl, fun _ => ⟨e2, e3, e4⟩, rfl⟩
            · have h0 : r.f.st = 0 := by have := H2.out; omega
              have e1 := Ho0.out h0
              rw [if_neg h1] at hc
              exact ⟨kt + 1, P2, n2, d2, [], had, nq, by go_num, by omega, rfl, rfl, by rw [hc, e1]; rfl, fun h => (by rw [e1] at h; cases h), rfl⟩
          have Way := Lib.hid way
          have Other := Lib.hid other
          clear way other
          by_cases hm : kt < mk
          · obtain ⟨ad, x, rfl, hx1, hx2, hx3⟩ := Hk.out.at_ hm
            have hj := headD_at hx1
            have hxc : W5.cell? (ad.add kt) = some (.int .i64 x) := (Keeps.of_below (Hbw.out.trans (Hb5.out.mono Hbw.out.size)) : Keeps w W5) _ _ hx3
            have dm : decide (kt < mk) = true := by simp; omega
            have im : (kt : Int) < (mk : Int) := by omega
            have im0 : (0 : Int) ≤ (kt : Int) := by omega
            have Hj := Lib.hid hj
            clear hx1 hx2 hx3 hj
            by_cases j1 : x = 1
            · subst j1
              have hc := Way.out _ Hj.out
              have hfin : CrR w W5 σ kp k acc nm (.int .i64 ((kt : Int) + 1)) (.slice P1 n1 d1) (.bool true) W5 := ⟨kt + 1, P1, n1, d1, r.f.b, true, 0, by go_num, by omega, rfl, rfl, by rw [hc]; rfl, fun _ => ⟨Hnb.out, hb1000, fun e => (Hb0.out e).2⟩, rfl⟩
              have Hfin := Lib.hid hfin
              clear hc hfin
              go_wp2
              go_meet
              exact Hfin.out
            · by_cases j2 : x = 2
              · subst j2
                have hc := Way.out _ Hj.out
                have hlen := Hnb.out.1
                have hfin : CrR w W5 σ kp k acc nm (.int .i64 ((kt : Int) + 1)) (.slice P1 (n1 / 2) d1) (.bool true) W5 := ⟨kt + 1, P1, n1 / 2, d1, r.f.b.take (n1 / 2), true, 0, by go_num, by omega, rfl, rfl, by rw [hc]; unfold leftF; rw [if_neg (by decide), if_pos rfl, ← hlen]; rfl, fun _ => ⟨Hnb.out.take (n1 / 2) (by omega), by omega, fun e => (Hb0.out e).2⟩, rfl⟩
                have ks : ∀ W, (Instr.slice 23 (.slice P1 n1 d1) none (some (.int .i64 ((n1 : Int) / 2))) none).run Try.prog W = .ok (.slice P1 (n1 / 2) d1) W := fun W => by
                  rw [show (n1 : Int) / 2 = ((n1 / 2 : Nat) : Int) from by omega]
                  exact rslice_to P1 n1 d1 (n1 / 2) (by omega) Hb0.out W
                have Hfin := Lib.hid hfin
                clear hc hfin hlen j1
                go_wp2
                go_meet
                exact Hfin.out
              · have hfin := Other.out x Hj.out j1 j2
                have Hfin := Lib.hid hfin
                have e1 : (x == 1) = false := by simpa using j1
                have e2 : (x == 2) = false := by simpa using j2
                clear hfin j1 j2
                go_wp2_with fail
                go_quiet (fail)
                go_wp2
                go_meet
                exact Hfin.out _
          · have hj := headD_none (kp := kp) (t := kt) (by rw [Hk.out.1]; omega)
            have hfin := Other.out 0 hj (by decide) (by decide)
            have dm : decide (kt < mk) = false := by simp; omega
            have Hfin := Lib.hid hfin
            clear hfin hj
            go_wp2_with fail
            go_quiet (fail)
            go_wp2
            go_meet
            exact Hfin.out _
      case rest =>
      obtain ⟨kt', P, n, d, xs, is, nq, rfl, hkt', rfl, rfl, hcr', hxs, hw⟩ := hcut
      have x0' : (W5.drewN nq).cell? ⟨wr.heap.size, 0, none⟩ = some (.string (str nm)) := x0
      have hb6 : Below wr.heap.size wr (W5.drewN nq) := below_drewN Hb5.out nq
      have hz6 : (W5.drewN nq).heap.size = wr.heap.size + 1 := Hz5.out
      rw [hw] at x0' hb6 hz6
      rename World => W6
      have Hb6 := Lib.hid hb6
      have Hz6 := Lib.hid hz6
      have Hcr' := Lib.hid hcr'
      have Hxs := Lib.hid hxs
      clear hb6 hz6 hcr' hxs hw x0 x1 x2 x3 x4 Hb5 Hbx Hz5 Hcs2
      obtain ⟨b8, hb8⟩ : ∃ b8, b8 = wr.heap.size := ⟨_, rfl⟩
      rw [← hb8] at x0' ⊢
      have Hb8 := Lib.hid hb8
      clear hb8
      cases is with
      | false =>
        have hR6 := HR.out.below Hb6.out
        have hT6 := HT.out.same (Tch.of_below _ Hb6.out)
        have s6 := Hb6.out.size
        have s1 := HT.out.size
        have hR7 : RefAt W6 p ⟨σ.lim, acc, []⟩ (k + 1) (Grw (fun j => j = p) w1 W6) (Grw (fun _ => False) w1 W6) := hR6.mono (fun j hj => by rcases hj with hj | hj; exact .inl hj; exact .inr ⟨hj.1, by omega⟩) (fun j hj => by rcases hj with hj | hj; exact .inl hj; exact .inr ⟨hj.1, by omega⟩)
          (grw_bd (fun j hj => by subst hj; have := Hz1.out; have := Hp.out; omega) (by omega)) (grw_bd (fun j hj => hj.elim) (by omega)) (Nat.le_succ k)
        have HR7 := Lib.hid hR7
        have HT6 := Lib.hid hT6
        clear hR6 hT6 s6 s1 hR7 x0'
        go_wp2
        go_roundw
        case rel => exact ⟨k + 1, kt', acc, by omega, by omega, by go_num, rfl, Hcr'.out, HR7.out, HT6.out⟩
        case measure => simp [intOf]; omega
      | true =>
        obtain ⟨hx1, hx2, hx3⟩ := Hxs.out rfl
        obtain ⟨Pa, ca, w7, hrun, hcp, hb7⟩ := copy_bytes W6.drew P n d xs (hx1.keep ((Keeps.of_below (Hbw.out.trans (Hb6.out.mono Hbw.out.size)) : Keeps w W6))) (by omega) hx3
        have hb7' : Below wr.heap.size wr w7 := (below_drewN Hb6.out 1).trans (hb7.mono (by have := Hb6.out.size; exact this))
        have s6 := Hb6.out.size
        have s7 := hb7.size
        have s1 := HT.out.size
        have z6 : W6.drew.heap.size = W6.heap.size := rfl
        have hx0a : (W6.drew.alloc (.cells #[] 5)).cell? ⟨b8, 0, none⟩ = some (.string (str nm)) := ((Keeps.refl W6.drew).alloc _) _ _ x0'
        have hx07 : w7.cell? ⟨b8, 0, none⟩ = some (.string (str nm)) := (Keeps.of_below hb7) _ _ x0'
        obtain ⟨fv2, lv2, rs2, hi2⟩ := HR.out.below hb7'
        have hi3 : RefIn w7 p ⟨σ.lim, acc, []⟩ k (Grw (fun j => j = p) w1 wr) (Grw (fun _ => False) w1 w7) fv2 lv2 rs2 := hi2.mono (fun j hj => hj) (fun j hj => by rcases hj with hj | hj; exact .inl hj; exact .inr ⟨hj.1, by omega⟩)
          hi2.ml (grw_bd (fun j hj => hj.elim) (by omega)) (Nat.le_refl k)
        obtain ⟨r2, hr2⟩ : ∃ r2 : RFv, r2 = ⟨nm, sureF xs, .slice Pa n ca, .slice none 0 0, false⟩ := ⟨_, rfl⟩
        have hr2ok : ROk (Grw (fun _ => False) w1 w7) w7 r2 := by
          rw [hr2]
          refine ⟨?_, ⟨[], FB.nil _ _, fun h => absurd (show (2 : Nat) = 1 from h) (by decide)⟩, fun h => absurd (show (2 : Nat) = 0 from h) (by decide)⟩
          refine ⟨?_, fun j hj => .inr ⟨by have := (hcp.lt j hj).1; omega, (hcp.lt j hj).2⟩⟩
          show w7.ownsRow 0 5 1 (.slice Pa n ca) xs.length (byts xs)
          rw [hx1.1]
          exact own_mono hcp (Nat.zero_le _)
        have hr2f : r2.f.ok := by rw [hr2]; exact sureF_ok ⟨by rw [hx1.1]; exact hx2, hx1.2.1⟩
        have ha5 : agg5 r2 = .agg #[.string (str nm), .slice Pa n ca, .slice none 0 0, .bool true, .bool false] := by rw [hr2]; rfl
        have hput := rput_any r2 hi3 hr2ok hr2f (by rw [hr2]; exact Hnk.out) (by omega)
        rw [ha5] at hput
        have hfin : putF acc r2.n r2.f = putF acc nm (sureF xs) := by rw [hr2]
        have hfin2 : ∀ w9, RefAt w9 p ((⟨σ.lim, acc, []⟩ : St).with (putF acc r2.n r2.f)) (k + 1) (Grw (Grw (fun j => j = p) w1 wr) w7 w9) (Grw (Grw (fun _ => False) w1 w7) w7 w9) → Tch (Grw (fun j => j = p) w1 wr) w7 w9 →
            RefAt w9 p ⟨σ.lim, putF acc nm (sureF xs), []⟩ (k + 1) (Grw (fun j => j = p) w1 w9) (Grw (fun _ => False) w1 w9) ∧ Tch (fun j => j = p) w1 w9 ∧ w9.cell? ⟨b8, 0, none⟩ = some (.string (str nm)) := fun w9 h9 t9 => by
          have s9 := t9.size
          have e8 := Hb8.out
          have hp := Hp.out
          have hz1 := Hz1.out
          rw [hfin] at h9
          have t17 : Tch (fun j => j = p) w1 w7 := HT.out.same (Tch.of_below _ hb7')
          refine ⟨h9.mono (fun j hj => ?_) (fun j hj => Grw.trans (by omega) s9 hj) (grw_bd (fun j hj => by subst hj; omega) (by omega)) (grw_bd (fun j hj => hj.elim) (by omega)) (Nat.le_refl _), t17.trans t9 fun j hj hg => ?_, ?_⟩
          · rcases hj with (hj | hj) | hj
            · exact .inl hj
            · exact .inr ⟨hj.1, by omega⟩
            · exact .inr ⟨by omega, hj.2⟩
          · rcases hg with hg | hg
            · exact hg
            · omega
          · rw [World.cell?_of_block (w := w7) (t9.block b8 (block_lt hx07) fun hg => by
              rcases hg with hg | hg
              · omega
              · omega)]
            exact hx07
        have Hput := Lib.hid hput
        have Hfin2 := Lib.hid hfin2
        have Hrun := Lib.hid hrun
        have Hx07 := Lib.hid hx07
        have Hx0a := Lib.hid hx0a
        clear hx1 hx2 hx3 hrun hcp hb7 hb7' s6 s7 s1 z6 hx0a hx07 hi2 hi3 hr2 hr2ok hr2f ha5 hput hfin hfin2
        go_upto_region 19 with (fail)
        refine wp_region_held_drew (S := fun W => W.cell? ⟨b8, 0, none⟩ = some (.string (str nm))) (by kernel_rfl) x0' (fun hHeld => ?_)
        refine wpAnyH_take (i := 0) (v := ?vd0) rfl (by kernel_rfl) (by kernel_rfl) (by kernel_rfl) (fun _ _ _ h => h) (Or.inl ⟨by rfl, ?yd0⟩) hHeld ?rd0
        case yd0 => (intro W hW; go_simp; first | done | with_reducible rfl)
        try simp only [List.getElem_toArray, List.getElem_cons_zero, Act.put, List.setIfInBounds_toArray, List.set_cons_zero, List.set_cons_succ]
        refine wpAnyH_take (i := 1) (v := ?vd1) rfl (by kernel_rfl) (by kernel_rfl) (by kernel_rfl) (fun _ _ _ h => h) (Or.inl ⟨by rfl, ?yd1⟩) hHeld ?rd1
        case yd1 => (intro W hW; go_simp; first | done | with_reducible rfl)
        try simp only [List.getElem_toArray, List.getElem_cons_succ, List.getElem_cons_zero, Act.put, List.setIfInBounds_toArray, List.set_cons_zero, List.set_cons_succ]
        refine wpAnyH_take (i := 2) (v := ?vd2) rfl (by kernel_rfl) (by kernel_rfl) (by kernel_rfl) (fun _ _ _ h => h) (Or.inl ⟨by rfl, ?yd2⟩) hHeld ?rd2
        case yd2 => (intro W hW; go_simp; first | done | with_reducible rfl)
        try simp only [List.getElem_toArray, List.getElem_cons_succ, List.getElem_cons_zero, Act.put, List.setIfInBounds_toArray, List.set_cons_zero, List.set_cons_succ]
        refine wpAnyH_take (i := 4) (v := ?vd4) rfl (by kernel_rfl) (by kernel_rfl) (by kernel_rfl) (fun _ _ _ h => h) (Or.inl ⟨by rfl, ?yd4⟩) hHeld ?rd4
        case yd4 => (intro W hW; go_simp; first | done | with_reducible rfl)
        try simp only [List.getElem_toArray, List.getElem_cons_succ, List.getElem_cons_zero, Act.put, List.setIfInBounds_toArray, List.set_cons_zero, List.set_cons_succ]
        refine wpAnyH_ready (rs := [3]) (by kernel_rfl) (by simp) ?_
        refine AllReadyH.cons rfl (fun K hK => ?_) (AllReadyH.nil)
        go_simp
        refine hK.out _ _ (Hx0a.out) (fun hHeld => ?_)
        clear hK K
        try simp only [List.getElem_toArray, List.getElem_cons_succ, List.getElem_cons_zero, Act.put, List.setIfInBounds_toArray, List.set_cons_zero, List.set_cons_succ]
        refine wpAnyH_ready (rs := [5]) (by kernel_rfl) (by simp) ?_
        refine AllReadyH.cons rfl (fun K hK => ?_) (AllReadyH.nil)
        rw [if_pos (by rfl)]
        refine oper_append (.tmp 68) (.tmp 69) 23 rfl _ _ _ _ rfl rfl Hrun.out ?_
        refine hK.out _ _ (Hx07.out) (fun hHeld => ?_)
        clear hK K
        try simp only [List.getElem_toArray, List.getElem_cons_succ, List.getElem_cons_zero, Act.put, List.setIfInBounds_toArray, List.set_cons_zero, List.set_cons_succ]
        refine wpAnyH_take (i := 6) (v := ?vd6) rfl (by kernel_rfl) (by kernel_rfl) (by kernel_rfl) (fun _ _ _ h => h) (Or.inl ⟨by rfl, ?yd6⟩) hHeld ?rd6
        case yd6 => (intro W hW; go_simp; first | done | with_reducible rfl)
        try simp only [List.getElem_toArray, List.getElem_cons_succ, List.getElem_cons_zero, Act.put, List.setIfInBounds_toArray, List.set_cons_zero, List.set_cons_succ]
        refine wpAnyH_ready (rs := [7]) (by kernel_rfl) (by simp) ?_
        refine AllReadyH.cons rfl (fun K hK => ?_) (AllReadyH.nil)
        go_simp
        refine Hput.out.mono ?_
        rintro e w9 ⟨rfl, h9, t9⟩
        obtain ⟨h10, t10, x10⟩ := Hfin2.out _ h9 t9
        have H10 := Lib.hid h10
        have T10 := Lib.hid t10
        have X10 := Lib.hid x10
        clear h9 t9 h10 t10 x10
        go_wp2_with fail
        refine hK.out _ _ (X10.out) (fun hHeld => ?_)
        clear hK K
        try simp only [List.getElem_toArray, List.getElem_cons_succ, List.getElem_cons_zero, Act.put, List.setIfInBounds_toArray, List.set_cons_zero, List.set_cons_succ]
        refine wpAnyH_done (by kernel_rfl) ?_ _
        go_wp2
        go_roundw
        case rel => exact ⟨k + 1, kt', putF acc nm (sureF xs), by omega, by omega, by go_num, rfl, Hcr'.out, H10.out, T10.out⟩
        case measure => simp [intOf]; omega
    · obtain rfl : k = N := by omega
      have hcr : crashF σ.fs kp [] = acc := by rw [Hcr.out, List.drop_eq_nil_of_le (by rw [← HNf.out]; exact Nat.le_refl _)]; rfl
      have hz := Hz1.out
      have hp := Hp.out
      have hs2 := HT.out.size
      have hq1 : wr.cell? ⟨q, 1, none⟩ = some (.slice Pf k cap) := by have := (Hi.out.below Hbw.out).blk.cell (i := 1) rfl; rwa [← HN.out] at this
      have dk : decide (k < k) = false := by simp
      have hfin : RefAt wr p (σ.crash kp) c (Grw (fun _ => False) w wr) (Grw (fun _ => False) w wr) := by
        have e : σ.crash kp = ⟨σ.lim, acc, []⟩ := by unfold St.crash; rw [hcr]
        rw [e]
        refine HR.out.mono (fun j hj => ?_) (fun j hj => ?_) (fun j hj => ?_) (fun j hj => ?_) hfew
        · rcases hj with hj | hj
          · subst hj; exact .inr ⟨by omega, by omega⟩
          · exact .inr ⟨by omega, hj.2⟩
        · rcases hj with hj | hj
          · exact hj.elim
          · exact .inr ⟨by omega, hj.2⟩
        · rcases hj with hj | hj
          · exact hj.elim
          · exact hj.2
        · rcases hj with hj | hj
          · exact hj.elim
          · exact hj.2
      have Hfin := Lib.hid hfin
      clear hcr hz hp hs2 hfin
      go_wp2
      go_ret
      have hp := Hp.out
      subst hp
      exact ⟨rfl, Hfin.out, Hbw.out⟩
end Go.Proofs.Ytgkgkekgmcldmaa
