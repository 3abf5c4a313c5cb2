/- Package store's shelf: put, drop. -/
import Derived.Test.YtgkgkekgmcldmaaSt4
namespace Go.Proofs.Ytgkgkekgmcldmaa
open Go.RowKit
theorem field0 (a b c : Value) (W : World) : (Instr.field 69 (.agg #[a, b, c]) 0).run Try.prog W = .ok a W := by kernel_rfl
def St.with (σ : St) (fs : Fs) : St := ⟨σ.lim, fs, σ.ops⟩
theorem St.ok.putW {σ : St} {c : Nat} (h : σ.ok c) {n : Nm} {f : SF} (hn : nameOk n = true) (hf : f.ok) : (σ.with (putF σ.fs n f)).ok (c + 1) := by
  have h1 := h.put hn hf 1 (by omega)
  exact ⟨h1.rising, h1.names, h1.files, h1.few, Nat.le_succ_of_le h.ops, h.onames, h.lim⟩
theorem FileV.set {A : Nat → Prop} {w : World} {v : Value} {f : SF} {g : Nat} {T : TypeId} (h : FileV A w v f) (ho : Ty w g T) (hT : T ≠ 5) (i : Nat) (u : Value) : FileV A (w.setCell ⟨g, i, none⟩ u) v f := by
  obtain ⟨vn, vb, h1, h2, h3⟩ := h
  exact ⟨vn, vb, h1, h2.set ho hT i u, h3.set ho hT i u⟩
theorem map_ty {w : World} {b k g : Nat} {D : DataW Value} {T : TypeId} (h : w.ownsMap Try.prog 9 RV b k D) (ho : Ty w g T) : b ≠ g := by
  obtain ⟨es, clock, h1, _⟩ := h
  obtain ⟨cur, fr, ho⟩ := ho
  intro e
  subst e
  rw [h1] at ho
  injection ho with ho
  cases ho
theorem MapV.set {A : Nat → Prop} {w : World} {mv : Value} {fs : Fs} {c g : Nat} {T : TypeId} (h : MapV A w mv fs c) (ho : Ty w g T) (hT : T ≠ 5) (i : Nat) (u : Value) : MapV A (w.setCell ⟨g, i, none⟩ u) mv fs c := by
  rcases h with h | ⟨b, D, k, rfl, h1, h2, h3, h4⟩
  · exact .inl h
  · exact .inr ⟨b, D, k, rfl, map_stay h1 (Below.heap_setCell _ _ _ _ (map_ty h1 ho)), h2, h3, fun n f hf => by obtain ⟨v, h5, h6⟩ := h4 n f hf; exact ⟨v, h5, h6.set ho hT i u⟩⟩
section
variable {w w' : World} {p c : Nat} {σ : St} {M A : Nat → Prop} {mv dv : Value} {fs : Fs}
/-- The map's cell is written: a map that was just made. -/
theorem StoreIn.newMap (h : StoreIn w p σ c M A (.map none) dv) : StoreIn ((w.alloc (.map #[] 0)).setCell ⟨p, 1, none⟩ (.map (some w.heap.size))) p σ c (Grw M w ((w.alloc (.map #[] 0)).setCell ⟨p, 1, none⟩ (.map (some w.heap.size)))) (Grw A w ((w.alloc (.map #[] 0)).setCell ⟨p, 1, none⟩ (.map (some w.heap.size)))) (.map (some w.heap.size)) dv := by
  have h1 := h.below ((Below.refl _ w).alloc (Nat.le_refl _) (.map #[] 0))
  have hfs : σ.fs = [] := by
    rcases h.map with ⟨_, h2⟩ | ⟨b, D, k, h2, _⟩
    · exact h2
    · cases h2
  have hm : MapV A (w.alloc (.map #[] 0)) (.map (some w.heap.size)) σ.fs c := hfs ▸ mapNew A w c
  have ht := Ty.of h1.blk
  refine StoreIn.mono (M := fun k => M k ∨ k = w.heap.size) (A := A) ⟨h1.blk.set_ 1 _, h.ok, hm.set ht (by decide) _ _, own_set h1.ops ht (by decide) _ _, .inl h.mp, fun b e => by injection e with e; injection e with e; exact .inr e.symm, fun k e => .inl (h.md k e), fun k hk => ?_, fun k hk => ?_⟩ (fun k hk => ?_) (fun k hk => .inl hk) (fun k hk => ?_) (fun k hk => ?_) (Nat.le_refl _)
  · rcases hk with hk | hk
    · have := h.ml k hk; simp [World.setCell]; omega
    · simp [World.setCell]; omega
  · have := h.al k hk; simp [World.setCell]; omega
  · rcases hk with hk | hk
    · exact .inl hk
    · exact .inr ⟨by omega, by simp [World.setCell]; omega⟩
  · rcases hk with hk | hk
    · have := h.ml k hk; simp [World.setCell]; omega
    · exact hk.2
  · rcases hk with hk | hk
    · have := h.al k hk; simp [World.setCell]; omega
    · exact hk.2
theorem MapV.isMap (h : MapV A w mv fs c) : ∃ r, mv = .map r := by
  rcases h with ⟨h, _⟩ | ⟨b, D, k, h, _⟩
  · exact ⟨_, h⟩
  · exact ⟨_, h⟩
theorem MapV.owns {b : Nat} (h : MapV A w (.map (some b)) fs c) : ∃ D k, w.ownsMap Try.prog 9 RV b k D := by
  rcases h with ⟨h, _⟩ | ⟨b', D, k, h, h1, _⟩
  · cases h
  · injection h with h
    injection h with h
    subst h
    exact ⟨D, k, h1⟩
theorem MapV.below (h : MapV A w mv fs c) (hb : Below w.heap.size w w') : MapV A w' mv fs c :=
  h.stay (fun k _ hk => hb.block k hk) fun b e => by
    subst e
    obtain ⟨D, k, h1⟩ := h.owns
    exact hb.block b h1.lt
theorem ops_ty {b n g : Nat} {T : TypeId} {v : Value} {xs : List Value} {s : Nat} {e : TypeId} (h : w.ownsRow b e s v n xs) (ho : Ty w g T) (hT : T ≠ e) : ∀ k, v.ownBlock = some k → k ≠ g := by
  intro k hk e1
  subst e1
  obtain ⟨cur', fr', ho⟩ := ho
  rcases h.2 with ⟨rfl, _⟩ | ⟨g2, cap, cur, rfl, _, hh, _⟩
  · simp [Value.ownBlock] at hk
  · simp only [Value.ownBlock, Option.some.injEq] at hk
    subst hk
    rw [hh] at ho
    injection ho with ho
    injection ho with _ h2
    exact hT h2.symm
end
set_option maxRecDepth 100000 in
set_option maxHeartbeats 2000000 in
theorem put_any (w : World) (p c : Nat) (σ : St) (M A : Nat → Prop) (mv dv v : Value) (n : Nm) (f : SF) (h : StoreIn w p σ c M A mv dv) (hv : FileV A w v f) (hf : f.ok) (hn : nameOk n = true) (hc : c ≤ 999999) :
    Calls Try.prog 34 #[.pointer (some ⟨p, 1, none⟩), .string (str n), v] w fun e w' => e = .returned (.tuple #[]) ∧ StoreAt w' p (σ.with (putF σ.fs n f)) (c + 1) (Grw M w w') (Grw A w w') ∧ Tch M w w' := by
  obtain ⟨P1, c1, P2, c2, rfl, hvn, hvb⟩ := hv.slices
  obtain ⟨st, hst⟩ : ∃ st, st = (f.st : Int) := ⟨_, rfl⟩
  rw [← hst] at hv ⊢
  obtain ⟨vb, hvb2⟩ : ∃ vb, vb = Value.agg #[.slice P1 f.b.length c1, .slice P2 f.old.length c2, .int .i64 st] := ⟨_, rfl⟩
  have Hst := Lib.hid hst
  have Hf := Lib.hid hf
  have Hn := Lib.hid hn
  have hls := nameOk_le hn
  have hsz := str_size n
  have Hv := Lib.hid hv
  obtain ⟨r, e0⟩ := h.map.isMap
  subst e0
  have h1 := h.below ((Below.refl _ w).alloc (Nat.le_refl _) (.cells #[.slice P1 f.b.length c1, .slice P2 f.old.length c2, .int .i64 st] 69))
  have v1 := hv.below ((Below.refl _ w).alloc (Nat.le_refl _) (.cells #[.slice P1 f.b.length c1, .slice P2 f.old.length c2, .int .i64 st] 69))
  have hbx : Own 69 (w.alloc (.cells #[.slice P1 f.b.length c1, .slice P2 f.old.length c2, .int .i64 st] 69)) w.heap.size [.slice P1 f.b.length c1, .slice P2 f.old.length c2, .int .i64 st] := heap_alloc_new w _
  have ht1 : Tch M w (w.alloc (.cells #[.slice P1 f.b.length c1, .slice P2 f.old.length c2, .int .i64 st] 69)) := Tch.alloc M w _
  have hs1 : (w.alloc (.cells #[.slice P1 f.b.length c1, .slice P2 f.old.length c2, .int .i64 st] 69)).heap.size = w.heap.size + 1 := by simp
  have hml := h.ml
  have hMp := h.mp
  have HMp := Lib.hid hMp
  have hpl := h.ml p h.mp
  have Hpl := Lib.hid hpl
  clear hMp hpl
  have hal := h.al
  obtain ⟨W, hW⟩ : ∃ W, W = w.alloc (.cells #[.slice P1 f.b.length c1, .slice P2 f.old.length c2, .int .i64 st] 69) := ⟨_, rfl⟩
  rw [← hW] at h1 v1 hbx ht1 hs1
  have H1 := Lib.hid h1
  have V1 := Lib.hid v1
  have Hbx := Lib.hid hbx
  have Ht1 := Lib.hid ht1
  have Hs1 := Lib.hid hs1
  have HW := Lib.hid hW
  have Hml := Lib.hid hml
  have Hal := Lib.hid hal
  clear hst hf hn hv hvn hvb h hvb2 vb h1 v1 hbx ht1 hs1 hW hml hal
  have mm := fun (W : World) (r : Option Nat) => run_eql_map_nil (P := Try.prog) W 54 9 69 r Try.underlying54
  have hmm := @run_makeMap Try.prog
  go_enter Try.func34, Try.ntmps34
  go_upto_region 1 with (fail)
  rw [← HW.out]
  have q1 := H1.out.blk.cell (i := 1) rfl
  go_upto_if 10 with (fail)
  go_cut [] from 11 to 40 (fun wx => ∃ b, StoreIn wx p σ c (Grw M w wx) (Grw A w wx) (.map (some b)) dv ∧ Own 69 wx w.heap.size [.slice P1 f.b.length c1, .slice P2 f.old.length c2, .int .i64 st] ∧ FileV (Grw A w wx) wx (.agg #[.slice P1 f.b.length c1, .slice P2 f.old.length c2, .int .i64 st]) f ∧ Tch M w wx)
  case first =>
    cases r with
    | none =>
      have hn1 := H1.out.newMap
      have ha := H1.out.blk.alloc (.map #[] 0)
      have q2 := ha.cell (i := 1) rfl
      have qf := ha.frozen
      have hb2 := Hbx.out.alloc (.map #[] 0)
      have ht2 := Ty.of ha
      have hv2 : FileV A (W.alloc (.map #[] 0)) _ f := V1.out.below ((Below.refl _ W).alloc (Nat.le_refl _) (.map #[] 0))
      have hp := H1.out.mp
      have Hn1 := Lib.hid hn1
      have Hb2 := Lib.hid hb2
      have Ht2 := Lib.hid ht2
      have Hv2 := Lib.hid hv2
      have Hp := Lib.hid hp
      have hne : p ≠ w.heap.size := by have := Hml.out p H1.out.mp; omega
      have Hne := Lib.hid hne
      clear hn1 ha hb2 ht2 hv2 hp hne
      go_wp2
      go_meet
      have hsz : w.heap.size ≤ W.heap.size := by have := Hs1.out; omega
      have ht3 : Tch M W ((W.alloc (.map #[] 0)).setCell ⟨p, 1, none⟩ (.map (some W.heap.size))) := (Tch.alloc M W _).same (Tch.setCell Hp.out _ _ _)
      refine ⟨_, Hn1.out.mono (fun k hk => grw_mono hsz hk) (fun k hk => grw_mono hsz hk) (fun k hk => ?_) (fun k hk => ?_) (Nat.le_refl _), ?_, ?_, Ht1.out.same ht3⟩
      · rcases hk with hk | hk
        · have := Hml.out k hk; have := ht3.size; omega
        · exact hk.2
      · rcases hk with hk | hk
        · have := Hal.out k hk; have := ht3.size; omega
        · exact hk.2
      · exact (Below.heap_setCell _ _ _ _ (fun e => Hne.out e.symm)).trans Hb2.out
      · exact (Hv2.out.set Ht2.out (by decide) _ _).mono fun k hk => .inl hk
    | some b =>
      go_wp2
      go_meet
      refine ⟨b, H1.out.mono (fun k hk => .inl hk) (fun k hk => .inl hk) (fun k hk => ?_) (fun k hk => ?_) (Nat.le_refl _), Hbx.out, V1.out.mono (fun k hk => .inl hk), Ht1.out⟩
      · rcases hk with hk | hk
        · have := Hml.out k hk; have := Hs1.out; omega
        · exact hk.2
      · rcases hk with hk | hk
        · have := Hal.out k hk; have := Hs1.out; omega
        · exact hk.2
  case rest =>
    clear H1 V1 Hbx Ht1 q1 mm hmm
    obtain ⟨b, hS, hbx, hv, ht⟩ := hcut
    have hc6 : c ≤ 1000000 := by omega
    obtain ⟨vl, hl, hr1, _⟩ := look_any (w := wc.drew) (hS.map.stay (fun _ _ _ => rfl) (fun _ _ => rfl)) (n := n) (by have := hls.2; simp [maxLen]; omega)
    obtain ⟨P3, c3, P4, c4, e3, _, _⟩ := hl.file.slices
    subst e3
    have hu := hS.ok.used hc6
    have hu2 := lenF_le σ.fs n
    have hlv : (valF (fnd σ.fs n)).b.length = lenF (fnd σ.fs n) := by cases fnd σ.fs n <;> rfl
    rw [hlv] at hr1
    have hup := used_put n f hS.ok.rising
    have hq0 := hS.blk.cell (i := 1) rfl
    have hq2 := hS.blk.cell (i := 2) rfl
    have hqf := hS.blk.frozen
    have hx0 := hbx.cell (i := 0) rfl
    have hx1 := hbx.cell (i := 1) rfl
    have hx2 := hbx.cell (i := 2) rfl
    obtain ⟨u, hu'⟩ : ∃ u, u = usedF σ.fs := ⟨_, rfl⟩
    obtain ⟨l0, hl0⟩ : ∃ l0, l0 = lenF (fnd σ.fs n) := ⟨_, rfl⟩
    obtain ⟨l1, hl1⟩ : ∃ l1, l1 = f.b.length := ⟨_, rfl⟩
    have hlf := Hf.out.b.1
    rw [← hu'] at hu hu2 hup hq2
    rw [← hl0] at hu2 hup hr1
    rw [← hl1] at hup hx0 hlf
    have hw1 : IntKind.i64.wrap ((l1 : Int) - (l0 : Int)) = (l1 : Int) - (l0 : Int) := IntWalk.i64_in _ (by omega)
    have hw2 : IntKind.i64.wrap ((u : Int) + ((l1 : Int) - (l0 : Int))) = (u : Int) + ((l1 : Int) - (l0 : Int)) := IntWalk.i64_in _ (by omega)
    have HS := Lib.hid hS
    have Hbx := Lib.hid hbx
    have HV := Lib.hid hv
    have HT := Lib.hid ht
    have Hup := Lib.hid hup
    have Hl1 := Lib.hid hl1
    have Hl0 := Lib.hid hl0
    have Hu' := Lib.hid hu'
    clear hS hbx hv ht hup hl hlv hl1 hl0 hu' hsz
    have hfd := field0
    go_upto_region 3 with (fail)
    refine wp_region_still_tail 19 (by kernel_rfl) (by kernel_rfl) ?_
    simp only [List.take_succ_cons, List.take_zero, List.drop_succ_cons, List.drop_zero]
    iterate 13 still_step
    still_step
    still_step
    still_step
    still_step
    still_step
    still_step
    refine wpStill_nil ?_
    change wpList _ _ _ _ _ wc.drew
    clear hr1 hw1 hw2 hx0 hfd
    go_upto_region 4 with (fail)
    obtain ⟨W4, hW4⟩ : ∃ W4, W4 = (wc.setCell ⟨p, 2, none⟩ (.int .i64 ((u : Int) + ((l1 : Int) - (l0 : Int))))).drew := ⟨_, rfl⟩
    have b4 : Own 59 W4 p [.int .i64 σ.lim, .map (some b), .int .i64 ((u : Int) + ((l1 : Int) - (l0 : Int))), dv] := hW4 ▸ HS.out.blk.set_ 2 _
    have m4 : MapV (Grw A w wc) W4 (.map (some b)) σ.fs c := hW4 ▸ HS.out.map.set (Ty.of HS.out.blk) (by decide) _ _
    have o4 : W4.ownsRow 0 48 2 dv σ.ops.length (opCells σ.ops) := hW4 ▸ own_set HS.out.ops (Ty.of HS.out.blk) (by decide) _ _
    have v4 : FileV (Grw A w wc) W4 (.agg #[.slice P1 f.b.length c1, .slice P2 f.old.length c2, .int .i64 st]) f := hW4 ▸ HV.out.set (Ty.of HS.out.blk) (by decide) _ _
    have x4 : Own 69 W4 w.heap.size [.slice P1 f.b.length c1, .slice P2 f.old.length c2, .int .i64 st] := hW4 ▸ (Hbx.out.only (only_drewN (only_setCell p wc 2 (.int .i64 ((u : Int) + ((l1 : Int) - (l0 : Int))))) 1) (show w.heap.size ≠ p by have := Hpl.out; omega))
    have t4 : Tch M w W4 := hW4 ▸ HT.out.same ((Tch.setCell HMp.out wc 2 (.int .i64 ((u : Int) + ((l1 : Int) - (l0 : Int))))).drewN 1)
    have s4 : W4.heap.size = wc.heap.size := by rw [hW4]; simp [World.setCell]
    have q1 := b4.cell (i := 1) rfl
    have y0 := x4.cell (i := 0) rfl
    have y1 := x4.cell (i := 1) rfl
    have y2 := x4.cell (i := 2) rfl
    have hls2 : (str n).size ≤ 281474976710656 := by rw [str_size]; omega
    rw [← hW4]
    have B4 := Lib.hid b4
    have M4 := Lib.hid m4
    have O4 := Lib.hid o4
    have V4 := Lib.hid v4
    have T4 := Lib.hid t4
    have S4 := Lib.hid s4
    have Hmm := Lib.hid (HS.out.mm b rfl)
    have Hmd := Lib.hid HS.out.md
    have Hok := Lib.hid HS.out.ok
    have Hsz := Lib.hid HT.out.size
    have Hls2 := Lib.hid hls2
    have Hc := Lib.hid hc6
    clear b4 m4 o4 v4 x4 t4 s4 hW4 HS Hbx HV HT hq0 hqf hx1 hx2 hq2 hu hu2 hlf hls2 HW Hv Hs1 hc6
    refine wp_region_held_drew (S := fun W => Keeps W4 W) (by kernel_rfl) ((Keeps.refl W4).drewN 1) (fun hHeld => ?_)
    refine wpAnyH_take (i := 0) (v := ?vp0) rfl (by kernel_rfl) (by kernel_rfl) (by kernel_rfl) (fun _ _ _ h => h) (Or.inl ⟨by rfl, ?yp0⟩) hHeld ?rp0
    case yp0 => (intro W hW; go_simp; first | done | with_reducible rfl)
    try simp only [List.getElem_toArray, List.getElem_cons_zero, Act.put, List.setIfInBounds_toArray, List.set_cons_zero, List.set_cons_succ]
    refine wpAnyH_take (i := 1) (v := ?vp1) rfl (by kernel_rfl) (by kernel_rfl) (by kernel_rfl) (fun _ _ _ h => h) (Or.inl ⟨by rfl, ?yp1⟩) hHeld ?rp1
    case yp1 => (intro W hW; go_simp; first | done | with_reducible rfl)
    try simp only [List.getElem_toArray, List.getElem_cons_succ, List.getElem_cons_zero, Act.put, List.setIfInBounds_toArray, List.set_cons_zero, List.set_cons_succ]
    refine wpAnyH_take (i := 2) (v := ?vp2) rfl (by kernel_rfl) (by kernel_rfl) (by kernel_rfl) (fun _ _ _ h => h) (Or.inl ⟨by rfl, ?yp2⟩) hHeld ?rp2
    case yp2 => (intro W hW; go_simp; first | done | with_reducible rfl)
    try simp only [List.getElem_toArray, List.getElem_cons_succ, List.getElem_cons_zero, Act.put, List.setIfInBounds_toArray, List.set_cons_zero, List.set_cons_succ]
    refine wpAnyH_take (i := 3) (v := ?vp3) rfl (by kernel_rfl) (by kernel_rfl) (by kernel_rfl) (fun _ _ _ h => h) (Or.inl ⟨by rfl, ?yp3⟩) hHeld ?rp3
    case yp3 => (intro W hW; have h0 := hW _ _ q1; have h1 := hW _ _ y0; have h2 := hW _ _ y1; have h3 := hW _ _ y2; go_simp; first | done | with_reducible rfl)
    try simp only [List.getElem_toArray, List.getElem_cons_succ, List.getElem_cons_zero, Act.put, List.setIfInBounds_toArray, List.set_cons_zero, List.set_cons_succ]
    refine wpAnyH_take (i := 4) (v := ?vp4) rfl (by kernel_rfl) (by kernel_rfl) (by kernel_rfl) (fun _ _ _ h => h) (Or.inl ⟨by rfl, ?yp4⟩) hHeld ?rp4
    case yp4 => (intro W hW; go_simp; first | done | with_reducible rfl)
    try simp only [List.getElem_toArray, List.getElem_cons_succ, List.getElem_cons_zero, Act.put, List.setIfInBounds_toArray, List.set_cons_zero, List.set_cons_succ]
    refine wpAnyH_take (i := 6) (v := ?vp6) rfl (by kernel_rfl) (by kernel_rfl) (by kernel_rfl) (fun _ _ _ h => h) (Or.inl ⟨by rfl, ?yp6⟩) hHeld ?rp6
    case yp6 => (intro W hW; have h0 := hW _ _ q1; have h1 := hW _ _ y0; have h2 := hW _ _ y1; have h3 := hW _ _ y2; go_simp; first | done | with_reducible rfl)
    try simp only [List.getElem_toArray, List.getElem_cons_succ, List.getElem_cons_zero, Act.put, List.setIfInBounds_toArray, List.set_cons_zero, List.set_cons_succ]
    refine wpAnyH_ready (rs := [5]) (by kernel_rfl) (by simp) ?_
    refine AllReadyH.cons rfl (fun K hK => ?_) AllReadyH.nil
    go_simp
    refine (clone_any (str n) _ Hls2.out).mono ?_
    rintro e w5 ⟨rfl, hb5⟩
    have hb5 : Below W4.heap.size W4 w5 := (below_drewN (Below.refl _ _) 1).trans hb5
    have hk5 : Keeps W4 w5 := Keeps.of_below hb5
    have Hb5 := Lib.hid hb5
    clear hb5
    go_wp2_with fail
    refine hK.out _ _ ?_ (fun hHeld => ?_)
    · exact hk5
    clear hK K
    try simp only [List.getElem_toArray, List.getElem_cons_succ, List.getElem_cons_zero, Act.put, List.setIfInBounds_toArray, List.set_cons_zero, List.set_cons_succ]
    have m5 := M4.out.below Hb5.out
    obtain ⟨D5, k5, h5⟩ := m5.owns
    obtain ⟨w6, hr6, m6, g6, z6⟩ := mapUpd m5 (n := n) (by have := hls.2; simp [maxLen]; omega) Hc.out (V4.out.below Hb5.out)
    have hk6 : Keeps W4 w6 := (Keeps.of_below Hb5.out).trans (keeps_map h5 g6)
    have H5 := Lib.hid h5
    have M6 := Lib.hid m6
    have G6 := Lib.hid g6
    have Z6 := Lib.hid z6
    have Hk6 := Lib.hid hk6
    clear m5 h5 m6 g6 z6 hk6 hk5
    refine wpAnyH_ready (rs := [7]) (by kernel_rfl) (by simp) ?_
    refine AllReadyH.cons rfl (fun K hK => ?_) AllReadyH.nil
    go_simp
    clear hr6
    refine hK.out _ _ ?_ (fun hHeld => ?_)
    · exact Hk6.out
    clear hK K
    try simp only [List.getElem_toArray, List.getElem_cons_succ, List.getElem_cons_zero, Act.put, List.setIfInBounds_toArray, List.set_cons_zero, List.set_cons_succ]
    refine wpAnyH_done (by kernel_rfl) ?_ _
    go_wp2
    go_end0
    have z56 : w6.heap.size = w5.heap.size := Z6.out
    have z45 := Hb5.out.size
    have zw : w.heap.size ≤ wc.heap.size := Hsz.out
    have s4 := S4.out
    have up : ∀ {X : Nat → Prop} {k : Nat}, Grw X w wc k → Grw X w w6 k := fun hk => by
      rcases hk with hk | hk
      · exact .inl hk
      · exact .inr ⟨hk.1, by omega⟩
    have bd : ∀ {X : Nat → Prop}, (∀ k, X k → k < w.heap.size) → ∀ k, Grw X w w6 k → k < w6.heap.size := fun hX k hk => by
      rcases hk with hk | hk
      · have := hX k hk; omega
      · exact hk.2
    have hused : ((u : Int) + ((l1 : Int) - (l0 : Int))) = (usedF (putF σ.fs n f) : Int) := by have := Hup.out; omega
    refine ⟨rfl, ⟨.map (some b), dv, ?_, Hok.out.putW Hn.out Hf.out, M6.out.mono (fun k hk => up hk) (Nat.le_refl _), own_map (own_below O4.out Hb5.out (Nat.le_refl _)) H5.out G6.out, .inl HMp.out, fun b' e => by injection e with e; injection e with e; subst e; exact up Hmm.out, fun k hk => up (Hmd.out k hk), bd Hml.out, bd Hal.out⟩, ?_⟩
    · have := own_blk_map (B4.out.below Hb5.out B4.out.lt) H5.out G6.out
      rw [hused] at this
      exact this
    · refine (T4.out.same (Tch.of_below M Hb5.out)).trans (Tch.of_grown (M := fun k => k = b) G6.out fun k e => by injection e with e; exact e.symm) fun k hk e => ?_
      subst e
      rcases Hmm.out with h1 | h1
      · exact h1
      · omega
end Go.Proofs.Ytgkgkekgmcldmaa
