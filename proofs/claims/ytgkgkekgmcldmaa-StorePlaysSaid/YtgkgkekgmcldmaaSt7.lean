/- Package store's face, but for Names and Crash. -/
import Derived.Test.YtgkgkekgmcldmaaSt6
namespace Go.Proofs.Ytgkgkekgmcldmaa
open Go.RowKit
section
variable {w w' w3 w4 w5 : World} {p c : Nat} {σ σ' σ'' : St} {M A : Nat → Prop} {v : Value} {e : Ending}
theorem StoreAt.below (h : StoreAt w p σ c M A) (hb : Below w.heap.size w w') : StoreAt w' p σ c M A := by
  obtain ⟨mv, dv, h⟩ := h
  exact ⟨mv, dv, h.below hb⟩
theorem StoreAt.ml (h : StoreAt w p σ c M A) : ∀ k, M k → k < w.heap.size := by
  obtain ⟨mv, dv, h⟩ := h
  exact h.ml
theorem StoreAt.al (h : StoreAt w p σ c M A) : ∀ k, A k → k < w.heap.size := by
  obtain ⟨mv, dv, h⟩ := h
  exact h.al
theorem StoreAt.ok (h : StoreAt w p σ c M A) : σ.ok c := by
  obtain ⟨mv, dv, h⟩ := h
  exact h.ok
theorem StoreAt.mono {M' A' : Nat → Prop} {c' : Nat} (h : StoreAt w p σ c M A) (hM : ∀ k, M k → M' k) (hA : ∀ k, A k → A' k) (hM' : ∀ k, M' k → k < w.heap.size) (hA' : ∀ k, A' k → k < w.heap.size) (hc : c ≤ c') : StoreAt w p σ c' M' A' := by
  obtain ⟨mv, dv, h⟩ := h
  exact ⟨mv, dv, h.mono hM hA hM' hA' hc⟩
theorem StoreAt.tch {X : Nat → Prop} (h : StoreAt w p σ c M A) (ht : Tch X w w') (hX : ∀ k, X k → ¬ M k ∧ ¬ A k) : StoreAt w' p σ c M A := by
  obtain ⟨mv, dv, h⟩ := h
  exact ⟨mv, dv, h.tch ht hX⟩
theorem grw_bd {X : Nat → Prop} (hX : ∀ k, X k → k < w.heap.size) (hs : w.heap.size ≤ w'.heap.size) : ∀ k, Grw X w w' k → k < w'.heap.size := fun k hk => by
  rcases hk with hk | hk
  · have := hX k hk; omega
  · exact hk.2
/-- A call that refuses. -/
theorem OpPost.no (h : StoreAt w p σ c M A) (hb : Below w.heap.size w w') : OpPost p σ (c + 1) M A v w (.returned v) w' :=
  ⟨rfl, (h.below hb).mono (fun _ hk => .inl hk) (fun _ hk => .inl hk) (grw_bd h.ml hb.size) (grw_bd h.al hb.size) (Nat.le_succ _), Tch.of_below M hb⟩
/-- What was made ready, a change, another. -/
theorem OpPost.chain {c' : Nat} (h : StoreAt w p σ c M A) (hb : Below w.heap.size w w3) (t4 : Tch M w3 w4) (h5 : OpPost p σ'' c' (Grw M w3 w4) (Grw (Grw A w w3) w3 w4) v w4 e w5) : OpPost p σ'' c' M A v w e w5 := by
  obtain ⟨rfl, h6, t6⟩ := h5
  have s3 := hb.size
  have s4 := t4.size
  have s5 := t6.size
  refine ⟨rfl, h6.mono (fun k hk => ?_) (fun k hk => ?_) (grw_bd h.ml (by omega)) (grw_bd h.al (by omega)) (Nat.le_refl _), ((Tch.of_below M hb).same t4).trans t6 fun k hk hg => ?_⟩
  · exact grw_mono s3 (Grw.trans s4 s5 hk)
  · have := Grw.trans s4 s5 hk
    exact Grw.trans s3 (by omega) this
  · rcases hg with hg | hg
    · exact hg
    · omega
theorem StoreAt.new (w : World) (k : Int) (hk : 0 ≤ k ∧ k ≤ 1000000) : StoreAt (w.alloc (.cells #[.int .i64 k, .map none, .int .i64 0, .slice none 0 0] 59)) w.heap.size (St.new k) 0 (fun j => j = w.heap.size) (fun _ => False) := by
  refine ⟨.map none, .slice none 0 0, heap_alloc_new w _, St.ok_new hk, .inl ⟨rfl, rfl⟩, World.ownsRow_nil _ _ _ _, rfl, fun b e => ?_, fun k e => ?_, fun k e => ?_, fun k e => e.elim⟩
  · cases Value.map.inj e
  · simp [Value.ownBlock] at e
  · subst e; simp
end
set_option maxHeartbeats 400000 in
theorem sNew_any (k : Int) (w : World) :
    Calls Try.prog 9 #[.int .i64 k] w fun e w' => e = .returned (.pointer (some ⟨w.heap.size, 0, none⟩)) ∧ w' = w.alloc (.cells #[.int .i64 k, .map none, .int .i64 0, .slice none 0 0] 59) := by
  go_enter Try.func9, Try.ntmps9
  go_wp2
  go_ret
  exact ⟨rfl, rfl⟩
set_option maxHeartbeats 400000 in
theorem sUsed_any {w : World} {p c : Nat} {σ : St} {M A : Nat → Prop} (h : StoreAt w p σ c M A) :
    Calls Try.prog 24 #[.pointer (some ⟨p, 0, none⟩)] w fun e w' => e = .returned (.int .i64 (usedF σ.fs : Int)) ∧ w = w' := by
  obtain ⟨mv, dv, h⟩ := h
  have c0 := h.blk.cell (i := 2) rfl
  clear h
  go_enter Try.func24, Try.ntmps24
  go_wp2
  go_ret
  exact ⟨rfl, rfl⟩
set_option maxRecDepth 100000 in
set_option maxHeartbeats 1000000 in
theorem sRead_any {w : World} {p c : Nat} {σ : St} {M A : Nat → Prop} (n : Nm) (h : StoreAt w p σ c M A) (hn : n.length ≤ 1000000) :
    Calls Try.prog 13 #[.pointer (some ⟨p, 0, none⟩), .string (str n)] w fun e w' => ∃ v, e = .returned (.tuple #[v, .bool (fnd σ.fs n).isSome]) ∧ w'.ownsRow w.heap.size 5 1 v (valF (fnd σ.fs n)).b.length (byts (valF (fnd σ.fs n)).b) ∧ Below w.heap.size w w' := by
  obtain ⟨mv, dv, h⟩ := h
  obtain ⟨r, e0⟩ := h.map.isMap
  subst e0
  obtain ⟨vl, hl, _, hr⟩ := look_any h.map (n := n) (by simp [maxLen]; omega)
  have hvok : (valF (fnd σ.fs n)).ok := valF_ok fun f hf => (h.ok.fnd hf).1
  obtain ⟨P3, c3, P4, c4, e3, hb, _⟩ := hl.file.slices
  subst e3
  have q1 := h.blk.cell (i := 1) rfl
  obtain ⟨P, c', e1, h1, h2, hN⟩ := hb.form hvok.b.2
  injection e1 with e1 _ e2
  subst e1 e2
  generalize (fnd σ.fs n).isSome = bb at hr ⊢
  generalize valF (fnd σ.fs n) = f at *
  have hfl := hvok.b.1
  have HN := Lib.hid hN
  have H2 := Lib.hid h2
  obtain ⟨q, hq⟩ : ∃ q, q = f.b.length := ⟨_, rfl⟩
  obtain ⟨q', hq'⟩ : ∃ q', q' = f.old.length := ⟨_, rfl⟩
  rw [← hq] at hr HN h1 hfl ⊢
  rw [← hq'] at hr
  have Hq := Lib.hid hq
  clear h hl hb hN h2 hvok hq hq'
  go_enter Try.func13, Try.ntmps13
  --READEND
  go_wp2_with fail
  refine (allB_any P3 q c3 f.b _ (by exact HN.out.keep ((Keeps.refl w).alloc _)) h1 (by omega) H2.out).mono ?_
  rintro e w1 ⟨v1, rfl, h3, h4⟩
  obtain ⟨-, k1, k2⟩ := box1 (X := [.slice P3 q c3, .slice P4 q' c4, .int .i64 f.st]) h4
  obtain ⟨P5, c5, e5⟩ : ∃ P5 c5, v1 = .slice P5 q c5 := by
    obtain ⟨P, c, hv, _⟩ := own_form h3
    exact ⟨P, c, hv⟩
  subst e5
  have H3 := Lib.hid (own_mono h3 (show w.heap.size ≤ _ by simp))
  have K1 := Lib.hid k1
  clear h3 h4 k1 k2
  go_wp2
  go_ret2
  exact ⟨_, rfl, H3.out, K1.out⟩
set_option maxRecDepth 100000 in
set_option maxHeartbeats 4000000 in
theorem sWrite_any {w : World} {p c : Nat} {σ : St} {M A : Nat → Prop} (n : Nm) (P : Option Addr) (m cap : Nat) (xs : List Int) (h : StoreAt w p σ c M A) (hn : n.length ≤ 1000000) (hc : c ≤ 999999)
    (hx : Nums .u8 w P m xs) (hm : m ≤ 1000) (hmc : m ≤ cap) (hcap : cap ≤ maxLen) :
    Calls Try.prog 17 #[.pointer (some ⟨p, 0, none⟩), .string (str n), .slice P m cap] w (OpPost p (σ.write n xs).2 (c + 1) M A (.int .i64 (σ.write n xs).1) w) := by
  obtain ⟨mv, dv, hi⟩ := h
  have h : StoreAt w p σ c M A := ⟨mv, dv, hi⟩
  obtain ⟨r, e0⟩ := hi.map.isMap
  subst e0
  obtain ⟨vl, hl, hr1, hr2⟩ := look_any hi.map (n := n) (by simp [maxLen]; omega)
  have hvok : (valF (fnd σ.fs n)).ok := valF_ok fun f hf => (hi.ok.fnd hf).1
  have hfl := hl.file
  have hq0 := hi.blk.cell (i := 0) rfl
  have hq1 := hi.blk.cell (i := 1) rfl
  have hq2 := hi.blk.cell (i := 2) rfl
  obtain ⟨P3, c3, P4, c4, e3, _, _⟩ := hl.file.slices
  subst e3
  have hpl := hi.ml p hi.mp
  have hlv : (valF (fnd σ.fs n)).b.length = lenF (fnd σ.fs n) := by cases fnd σ.fs n <;> rfl
  have hu := hi.ok.used (by omega)
  have hu2 := lenF_le σ.fs n
  have hxl := hx.1
  have hxb := hx.2.1
  obtain ⟨hlim1, hlim2⟩ := hi.ok.lim
  obtain ⟨u, hu'⟩ : ∃ u, u = usedF σ.fs := ⟨_, rfl⟩
  obtain ⟨l0, hl0⟩ : ∃ l0, l0 = lenF (fnd σ.fs n) := ⟨_, rfl⟩
  rw [hlv] at hr1
  rw [← hl0] at hr1 hu2
  rw [← hu'] at hu hu2 hq2
  have hw1 : IntKind.i64.wrap ((u : Int) - (l0 : Int)) = (u : Int) - (l0 : Int) := IntWalk.i64_in _ (by omega)
  have hw2 : IntKind.i64.wrap ((u : Int) - (l0 : Int) + (m : Int)) = (u : Int) - (l0 : Int) + (m : Int) := IntWalk.i64_in _ (by omega)
  have hlN : n.length ≤ maxLen := by simp [maxLen]; omega
  have H := Lib.hid h
  have Hi := Lib.hid hi
  have Hvok := Lib.hid hvok
  have Hx := Lib.hid hx
  have Hcap := Lib.hid hcap
  have HlN := Lib.hid hlN
  have Hlv := Lib.hid hlv
  have Hl0 := Lib.hid hl0
  obtain ⟨q4, hq4⟩ : ∃ q4, q4 = (valF (fnd σ.fs n)).old.length := ⟨_, rfl⟩
  obtain ⟨st, hst⟩ : ∃ st, st = ((valF (fnd σ.fs n)).st : Int) := ⟨_, rfl⟩
  rw [← hq4, ← hst] at hr1
  rw [hlv, ← hl0, ← hq4, ← hst] at hfl
  have Hq4 := Lib.hid hq4
  have Hst := Lib.hid hst
  have Hfl := Lib.hid hfl
  cases hnk : nameOk n with
  | false =>
    have e : σ.write n xs = (1, σ) := by unfold St.write; rw [if_pos hnk]
    rw [e]
    have Hnk := Lib.hid hnk
    clear e hnk h hi hr2 hl hfl hvok hx hcap hlN hlv hl0 hq4 hst hu'
    go_enter Try.func17, Try.ntmps17
    go_wp2_with fail
    refine (isName_any n _ HlN.out).mono ?_
    rintro e w1 ⟨rfl, rfl⟩
    rw [Hnk.out]
    go_wp2
    go_ret
    exact OpPost.no H.out ((Below.refl _ _).alloc (Nat.le_refl _) _)
  | true =>
    by_cases hlt : σ.lim < (u : Int) - l0 + m
    · have e : σ.write n xs = (4, σ) := by unfold St.write; rw [if_neg (by simp [hnk]), if_pos (by rw [← hu', ← hl0, hxl]; exact hlt)]
      rw [e]
      have Hnk := Lib.hid hnk
      have d1 : decide (σ.lim < (u : Int) - l0 + m) = true := decide_eq_true hlt
      clear e hnk h hi hr2 hl hfl hvok hx hcap hlN hlv hl0 hq4 hst hu' hlt
      go_enter Try.func17, Try.ntmps17
      go_wp2_with fail
      refine (isName_any n _ HlN.out).mono ?_
      rintro e w1 ⟨rfl, rfl⟩
      rw [Hnk.out]
      go_wp2_with fail
      go_quiet (fail)
      go_wp2
      go_ret
      exact OpPost.no H.out (below_drewN ((Below.refl _ _).alloc (Nat.le_refl _) _) _)
    · have e : σ.write n xs = (0, σ.deed (putF σ.fs n (wrF (fnd σ.fs n) xs)) 1 n) := by unfold St.write; rw [if_neg (by simp [hnk]), if_neg (by rw [← hu', ← hl0, hxl]; exact hlt)]
      rw [e]
      have Hnk := Lib.hid hnk
      have d1 : decide (σ.lim < (u : Int) - l0 + m) = false := decide_eq_false hlt
      have Hxl := Lib.hid hxl
      have Hxb := Lib.hid hxb
      clear e hnk h hi hr2 hl hfl hvok hx hcap hlN hlv hl0 hq4 hst hu' hlt hxl hxb
      go_enter Try.func17, Try.ntmps17
      go_wp2_with fail
      refine (isName_any n _ HlN.out).mono ?_
      rintro e w1 ⟨rfl, rfl⟩
      rw [Hnk.out]
      go_wp2_with fail
      go_quiet (fail)
      go_upto_region 6 with (fail)
      have hb2 : Below w.heap.size w ((w.alloc (.cells #[.slice P3 l0 c3, .slice P4 q4 c4, .int .i64 st] 69)).drewN nq) := below_drewN ((Below.refl _ _).alloc (Nat.le_refl _) _) nq
      have hbx : Own 69 ((w.alloc (.cells #[.slice P3 l0 c3, .slice P4 q4 c4, .int .i64 st] 69)).drewN nq) w.heap.size [.slice P3 l0 c3, .slice P4 q4 c4, .int .i64 st] := heap_alloc_new w _
      generalize (w.alloc (.cells #[.slice P3 l0 c3, .slice P4 q4 c4, .int .i64 st] 69)).drewN nq = W2 at hb2 hbx ⊢
      have x0 := hbx.cell (i := 0) rfl
      have x1 := hbx.cell (i := 1) rfl
      have x2 := hbx.cell (i := 2) rfl
      have Hb2 := Lib.hid hb2
      clear hb2 hbx hq0 hq1 hq2 hr1 hw1 hw2 d1 hu hu2
      refine wp_region_held_drew (S := fun _ => True) (by kernel_rfl) trivial (fun hHeld => ?_)
      refine wpAnyH_take (i := 0) (v := ?vw0) rfl (by kernel_rfl) (by kernel_rfl) (by kernel_rfl) (fun _ _ _ h => h) (Or.inl ⟨by rfl, ?yw0⟩) hHeld ?rw0
      case yw0 => (intro W hW; go_simp; first | done | with_reducible rfl)
      try simp only [List.getElem_toArray, List.getElem_cons_zero, Act.put, List.setIfInBounds_toArray, List.set_cons_zero, List.set_cons_succ]
      refine wpAnyH_take (i := 1) (v := ?vw1) rfl (by kernel_rfl) (by kernel_rfl) (by kernel_rfl) (fun _ _ _ h => h) (Or.inl ⟨by rfl, ?yw1⟩) hHeld ?rw1
      case yw1 => (intro W hW; go_simp; first | done | with_reducible rfl)
      try simp only [List.getElem_toArray, List.getElem_cons_succ, List.getElem_cons_zero, Act.put, List.setIfInBounds_toArray, List.set_cons_zero, List.set_cons_succ]
      refine wpAnyH_take (i := 2) (v := ?vw2) rfl (by kernel_rfl) (by kernel_rfl) (by kernel_rfl) (fun _ _ _ h => h) (Or.inl ⟨by rfl, ?yw2⟩) hHeld ?rw2
      case yw2 => (intro W hW; go_simp; first | done | with_reducible rfl)
      try simp only [List.getElem_toArray, List.getElem_cons_succ, List.getElem_cons_zero, Act.put, List.setIfInBounds_toArray, List.set_cons_zero, List.set_cons_succ]
      refine wpAnyH_take (i := 3) (v := ?vw3) rfl (by kernel_rfl) (by kernel_rfl) (by kernel_rfl) (fun _ _ _ h => h) (Or.inl ⟨by rfl, ?yw3⟩) hHeld ?rw3
      case yw3 => (intro W hW; go_simp; first | done | with_reducible rfl)
      try simp only [List.getElem_toArray, List.getElem_cons_succ, List.getElem_cons_zero, Act.put, List.setIfInBounds_toArray, List.set_cons_zero, List.set_cons_succ]
      refine wpAnyH_take (i := 5) (v := ?vw5) rfl (by kernel_rfl) (by kernel_rfl) (by kernel_rfl) (fun _ _ _ h => h) (Or.inl ⟨by rfl, ?yw5⟩) hHeld ?rw5
      case yw5 => (intro W hW; go_simp; first | done | with_reducible rfl)
      try simp only [List.getElem_toArray, List.getElem_cons_succ, List.getElem_cons_zero, Act.put, List.setIfInBounds_toArray, List.set_cons_zero, List.set_cons_succ]
      refine wpAnyH_ready (rs := [4]) (by kernel_rfl) (by simp) ?_
      refine AllReadyH.cons rfl (fun K hK => ?_) (AllReadyH.nil)
      go_simp
      refine hK.out _ _ trivial (fun hHeld => ?_)
      clear hK K
      try simp only [List.getElem_toArray, List.getElem_cons_succ, List.getElem_cons_zero, Act.put, List.setIfInBounds_toArray, List.set_cons_zero, List.set_cons_succ]
      refine wpAnyH_ready (rs := [6]) (by kernel_rfl) (by simp) ?_
      refine AllReadyH.cons rfl (fun K hK => ?_) (AllReadyH.nil)
      go_simp
      refine (written_any A _ (valF (fnd σ.fs n)) P m cap xs _ (by exact Hfl.out.below (below_drewN Hb2.out 1)) (by exact Hx.out.keep (Keeps.of_below (below_drewN Hb2.out 1))) hmc (by omega) Hcap.out).mono ?_
      rintro e w3 ⟨v3, rfl, hv3, hb3⟩
      rw [wrF_valF] at hv3
      have hb3' : Below w.heap.size w w3 := (below_drewN Hb2.out 1).trans (hb3.mono Hb2.out.size)
      have hfok : (wrF (fnd σ.fs n) xs).ok := wrF_ok (fun f hf => (Hi.out.ok.fnd hf).1) ⟨by rw [Hxl.out]; omega, Hxb.out⟩
      have h3 := (Hi.out.below hb3').mono (M' := M) (A' := Grw A w w3) (fun _ h => h) (fun _ h => .inl h) (fun k hk => Nat.lt_of_lt_of_le (Hi.out.ml k hk) hb3'.size) (grw_bd Hi.out.al hb3'.size) (Nat.le_refl c)
      have hv3' : FileV (Grw A w w3) w3 v3 (wrF (fnd σ.fs n) xs) := hv3.mono fun k hk => grw_mono (w := w) Hb2.out.size hk
      obtain ⟨P5, c5, P6, c6, e5, _, _⟩ := hv3'.slices
      subst e5
      have Hb3 := Lib.hid hb3'
      have Hfok := Lib.hid hfok
      have H3 := Lib.hid h3
      have Hv3 := Lib.hid hv3'
      clear hb3 hb3' hfok h3 hv3 hv3'
      go_wp2_with fail
      refine hK.out _ _ trivial (fun hHeld => ?_)
      clear hK K
      try simp only [List.getElem_toArray, List.getElem_cons_succ, List.getElem_cons_zero, Act.put, List.setIfInBounds_toArray, List.set_cons_zero, List.set_cons_succ]
      refine wpAnyH_ready (rs := [7]) (by kernel_rfl) (by simp) ?_
      refine AllReadyH.cons rfl (fun K hK => ?_) (AllReadyH.nil)
      go_simp
      refine (put_any _ p c σ M (Grw A w w3) _ dv _ n _ H3.out Hv3.out Hfok.out Hnk.out hc).mono ?_
      rintro e w4 ⟨rfl, h4, t4⟩
      have H4 := Lib.hid h4
      have T4 := Lib.hid t4
      have Hops : Hid (σ.ops.length + 1 ≤ c + 1) := Lib.hid (Nat.succ_le_succ Hi.out.ok.ops)
      clear h4 t4
      go_wp2_with fail
      refine hK.out _ _ trivial (fun hHeld => ?_)
      clear hK K
      try simp only [List.getElem_toArray, List.getElem_cons_succ, List.getElem_cons_zero, Act.put, List.setIfInBounds_toArray, List.set_cons_zero, List.set_cons_succ]
      refine wpAnyH_done (by kernel_rfl) ?_ _
      go_wp2_with fail
      refine (done_any w4 p (c + 1) _ _ _ 1 n H4.out Hnk.out (by omega) Hops.out (by omega)).mono ?_
      rintro e w5 ⟨rfl, h6, t6⟩
      have H6 := Lib.hid h6
      have T6 := Lib.hid t6
      clear h6 t6
      go_wp2
      go_ret
      exact OpPost.chain H.out Hb3.out T4.out ⟨rfl, H6.out, T6.out⟩
end Go.Proofs.Ytgkgkekgmcldmaa
