/- Package store's face: Sync, Publish, Remove, Trace. -/
import Derived.Test.YtgkgkekgmcldmaaSt7
namespace Go.Proofs.Ytgkgkekgmcldmaa
open Go.RowKit
theorem FileV.sure {A : Nat → Prop} {w : World} {v : Value} {xs : List Int} (h : FB A w v xs) : FileV A w (.agg #[v, .slice none 0 0, .int .i64 2]) (sureF xs) := ⟨v, _, rfl, h, FB.nil _ _⟩
set_option maxRecDepth 100000 in
set_option maxHeartbeats 4000000 in
theorem sSync_any {w : World} {p c : Nat} {σ : St} {M A : Nat → Prop} (n : Nm) (h : StoreAt w p σ c M A) (hn : n.length ≤ 1000000) (hc : c ≤ 999999) :
    Calls Try.prog 15 #[.pointer (some ⟨p, 0, none⟩), .string (str n)] w (OpPost p (σ.sync n).2 (c + 1) M A (.int .i64 (σ.sync n).1) w) := by
  obtain ⟨mv, dv, hi⟩ := h
  have h : StoreAt w p σ c M A := ⟨mv, dv, hi⟩
  obtain ⟨r, e0⟩ := hi.map.isMap
  subst e0
  obtain ⟨vl, hl, hr1, hr2⟩ := look_any hi.map (n := n) (by simp [maxLen]; omega)
  have hvok : (valF (fnd σ.fs n)).ok := valF_ok fun f hf => (hi.ok.fnd hf).1
  have hfl := hl.file
  have hq0 := hi.blk.cell (i := 0) rfl
  have hq1 := hi.blk.cell (i := 1) rfl
  have hq2 := hi.blk.cell (i := 2) rfl
  obtain ⟨P3, c3, P4, c4, e3, _, _⟩ := hl.file.slices
  subst e3
  have hpl := hi.ml p hi.mp
  have hlv : (valF (fnd σ.fs n)).b.length = lenF (fnd σ.fs n) := by cases fnd σ.fs n <;> rfl
  have hu := hi.ok.used (by omega)
  have hu2 := lenF_le σ.fs n
  have hlN : n.length ≤ maxLen := by simp [maxLen]; omega
  have H := Lib.hid h
  have Hi := Lib.hid hi
  cases hf : fnd σ.fs n with
  | none =>
    have e : σ.sync n = (5, σ) := by unfold St.sync; rw [hf]
    rw [e]
    rw [hf] at hr2
    simp only [Option.isSome_none] at hr2
    generalize (valF none).b.length = q3 at hr2
    generalize (valF none).old.length = q4 at hr2
    generalize ((valF none).st : Int) = st at hr2
    clear e hf h hi hr1 hl hfl hvok hlN hlv hq0 hq2 hu hu2
    go_enter Try.func15, Try.ntmps15
    go_wp2
    go_ret
    exact OpPost.no H.out ((Below.refl _ _).alloc (Nat.le_refl _) _)
  | some f =>
    have e : σ.sync n = (0, σ.deed (putF σ.fs n (sureF f.b)) 2 n) := by unfold St.sync; rw [hf]
    rw [e]
    rw [hf] at hr2 hfl hvok
    have hnk : nameOk n = true := (hi.ok.fnd hf).2
    simp only [Option.isSome_some, valF, Option.getD_some] at hr2 hfl hvok
    obtain ⟨vn, vb, ev, hvn, hvb⟩ := hfl
    have ev1 : vn = .slice P3 f.b.length c3 := by
      simp only [Value.agg.injEq] at ev
      have := congrArg (fun a => a[0]?) ev
      simpa using this.symm
    subst ev1
    obtain ⟨q3, hq3⟩ : ∃ q3, q3 = f.b.length := ⟨_, rfl⟩
    rw [← hq3] at hr2 hvn
    generalize f.old.length = q4 at hr2
    generalize (f.st : Int) = st at hr2
    have Hvn := Lib.hid hvn
    have Hsu := Lib.hid (sureF_ok hvok.b)
    have Hnk := Lib.hid hnk
    clear e hf ev hvn hvb hq3 hnk h hi hr1 hl hvok hlN hlv hq0 hq2 hu hu2
    go_enter Try.func15, Try.ntmps15
    go_wp2_with fail
    go_upto_region 4 with (fail)
    have hb2 : Below w.heap.size w (w.alloc (.cells #[.slice P3 q3 c3, .slice P4 q4 c4, .int .i64 st] 69)) := (Below.refl _ _).alloc (Nat.le_refl _) _
    have hbx : Own 69 (w.alloc (.cells #[.slice P3 q3 c3, .slice P4 q4 c4, .int .i64 st] 69)) w.heap.size [.slice P3 q3 c3, .slice P4 q4 c4, .int .i64 st] := heap_alloc_new w _
    generalize w.alloc (.cells #[.slice P3 q3 c3, .slice P4 q4 c4, .int .i64 st] 69) = W2 at hb2 hbx ⊢
    have x0 := hbx.cell (i := 0) rfl
    have x1 := hbx.cell (i := 1) rfl
    have x2 := hbx.cell (i := 2) rfl
    have Hb2 := Lib.hid hb2
    clear hb2 hbx hq1 hr2
    refine wp_region_held_drew (S := fun _ => True) (by kernel_rfl) trivial (fun hHeld => ?_)
    refine wpAnyH_take (i := 0) (v := ?vs0) rfl (by kernel_rfl) (by kernel_rfl) (by kernel_rfl) (fun _ _ _ h => h) (Or.inl ⟨by rfl, ?ys0⟩) hHeld ?rs0
    case ys0 => (intro W hW; go_simp; first | done | with_reducible rfl)
    try simp only [List.getElem_toArray, List.getElem_cons_zero, Act.put, List.setIfInBounds_toArray, List.set_cons_zero, List.set_cons_succ]
    refine wpAnyH_take (i := 1) (v := ?vs1) rfl (by kernel_rfl) (by kernel_rfl) (by kernel_rfl) (fun _ _ _ h => h) (Or.inl ⟨by rfl, ?ys1⟩) hHeld ?rs1
    case ys1 => (intro W hW; go_simp; first | done | with_reducible rfl)
    try simp only [List.getElem_toArray, List.getElem_cons_succ, List.getElem_cons_zero, Act.put, List.setIfInBounds_toArray, List.set_cons_zero, List.set_cons_succ]
    refine wpAnyH_take (i := 2) (v := ?vs2) rfl (by kernel_rfl) (by kernel_rfl) (by kernel_rfl) (fun _ _ _ h => h) (Or.inl ⟨by rfl, ?ys2⟩) hHeld ?rs2
    case ys2 => (intro W hW; go_simp; first | done | with_reducible rfl)
    try simp only [List.getElem_toArray, List.getElem_cons_succ, List.getElem_cons_zero, Act.put, List.setIfInBounds_toArray, List.set_cons_zero, List.set_cons_succ]
    refine wpAnyH_take (i := 3) (v := ?vs3) rfl (by kernel_rfl) (by kernel_rfl) (by kernel_rfl) (fun _ _ _ h => h) (Or.inl ⟨by rfl, ?ys3⟩) hHeld ?rs3
    case ys3 => (intro W hW; go_simp; first | done | with_reducible rfl)
    try simp only [List.getElem_toArray, List.getElem_cons_succ, List.getElem_cons_zero, Act.put, List.setIfInBounds_toArray, List.set_cons_zero, List.set_cons_succ]
    refine wpAnyH_take (i := 4) (v := ?vs4) rfl (by kernel_rfl) (by kernel_rfl) (by kernel_rfl) (fun _ _ _ h => h) (Or.inl ⟨by rfl, ?ys4⟩) hHeld ?rs4
    case ys4 => (intro W hW; go_simp; first | done | with_reducible rfl)
    try simp only [List.getElem_toArray, List.getElem_cons_succ, List.getElem_cons_zero, Act.put, List.setIfInBounds_toArray, List.set_cons_zero, List.set_cons_succ]
    refine wpAnyH_ready (rs := [5]) (by kernel_rfl) (by simp) ?_
    refine AllReadyH.cons rfl (fun K hK => ?_) (AllReadyH.nil)
    go_simp
    refine hK.out _ _ trivial (fun hHeld => ?_)
    clear hK K
    try simp only [List.getElem_toArray, List.getElem_cons_succ, List.getElem_cons_zero, Act.put, List.setIfInBounds_toArray, List.set_cons_zero, List.set_cons_succ]
    refine wpAnyH_ready (rs := [6]) (by kernel_rfl) (by simp) ?_
    refine AllReadyH.cons rfl (fun K hK => ?_) (AllReadyH.nil)
    go_simp
    refine (certain_any P3 q3 c3 _).mono ?_
    rintro e w3 ⟨rfl, hb3⟩
    have hb3' : Below w.heap.size w w3 := (below_drewN Hb2.out 1).trans (hb3.mono Hb2.out.size)
    have hv3' : FileV A w3 (.agg #[.slice P3 q3 c3, .slice none 0 0, .int .i64 2]) (sureF f.b) := FileV.sure (Hvn.out.below hb3')
    have h3 := (Hi.out.below hb3').mono (M' := M) (A' := Grw A w w3) (fun _ h => h) (fun _ h => .inl h) (fun k hk => Nat.lt_of_lt_of_le (Hi.out.ml k hk) hb3'.size) (grw_bd Hi.out.al hb3'.size) (Nat.le_refl c)
    have Hb3 := Lib.hid hb3'
    have H3 := Lib.hid h3
    have Hv3 := Lib.hid (hv3'.mono (A' := Grw A w w3) fun k hk => .inl hk)
    clear hb3' h3 hv3'
    clear hb3
    go_wp2_with fail
    refine hK.out _ _ trivial (fun hHeld => ?_)
    clear hK K
    try simp only [List.getElem_toArray, List.getElem_cons_succ, List.getElem_cons_zero, Act.put, List.setIfInBounds_toArray, List.set_cons_zero, List.set_cons_succ]
    refine wpAnyH_ready (rs := [7]) (by kernel_rfl) (by simp) ?_
    refine AllReadyH.cons rfl (fun K hK => ?_) (AllReadyH.nil)
    go_simp
    refine (put_any _ p c σ M (Grw A w w3) _ dv _ n _ H3.out Hv3.out Hsu.out Hnk.out hc).mono ?_
    rintro e w4 ⟨rfl, h4, t4⟩
    have H4 := Lib.hid h4
    have T4 := Lib.hid t4
    have Hops : Hid (σ.ops.length + 1 ≤ c + 1) := Lib.hid (Nat.succ_le_succ Hi.out.ok.ops)
    clear h4 t4
    go_wp2_with fail
    refine hK.out _ _ trivial (fun hHeld => ?_)
    clear hK K
    try simp only [List.getElem_toArray, List.getElem_cons_succ, List.getElem_cons_zero, Act.put, List.setIfInBounds_toArray, List.set_cons_zero, List.set_cons_succ]
    refine wpAnyH_done (by kernel_rfl) ?_ _
    go_wp2_with fail
    refine (done_any w4 p (c + 1) _ _ _ 2 n H4.out Hnk.out (by omega) Hops.out (by omega)).mono ?_
    rintro e w5 ⟨rfl, h6, t6⟩
    have H6 := Lib.hid h6
    have T6 := Lib.hid t6
    clear h6 t6
    go_wp2
    go_ret
    exact OpPost.chain H.out Hb3.out T4.out ⟨rfl, H6.out, T6.out⟩
set_option maxRecDepth 100000 in
set_option maxHeartbeats 4000000 in
theorem sRemove_any {w : World} {p c : Nat} {σ : St} {M A : Nat → Prop} (n : Nm) (h : StoreAt w p σ c M A) (hn : n.length ≤ 1000000) (hc : c ≤ 999999) :
    Calls Try.prog 28 #[.pointer (some ⟨p, 0, none⟩), .string (str n)] w (OpPost p (σ.remove n).2 (c + 1) M A (.int .i64 (σ.remove n).1) w) := by
  obtain ⟨mv, dv, hi⟩ := h
  have h : StoreAt w p σ c M A := ⟨mv, dv, hi⟩
  obtain ⟨r, e0⟩ := hi.map.isMap
  subst e0
  obtain ⟨vl, hl, hr1, hr2⟩ := look_any hi.map (n := n) (by simp [maxLen]; omega)
  have hvok : (valF (fnd σ.fs n)).ok := valF_ok fun f hf => (hi.ok.fnd hf).1
  have hfl := hl.file
  have hq0 := hi.blk.cell (i := 0) rfl
  have hq1 := hi.blk.cell (i := 1) rfl
  have hq2 := hi.blk.cell (i := 2) rfl
  obtain ⟨P3, c3, P4, c4, e3, _, _⟩ := hl.file.slices
  subst e3
  have hpl := hi.ml p hi.mp
  have hlv : (valF (fnd σ.fs n)).b.length = lenF (fnd σ.fs n) := by cases fnd σ.fs n <;> rfl
  have hu := hi.ok.used (by omega)
  have hu2 := lenF_le σ.fs n
  have hlN : n.length ≤ maxLen := by simp [maxLen]; omega
  have H := Lib.hid h
  have Hi := Lib.hid hi
  cases hf : fnd σ.fs n with
  | none =>
    have e : σ.remove n = (5, σ) := by unfold St.remove; rw [hf]
    rw [e]
    rw [hf] at hr2
    simp only [Option.isSome_none] at hr2
    generalize (valF none).b.length = q3 at hr2
    generalize (valF none).old.length = q4 at hr2
    generalize ((valF none).st : Int) = st at hr2
    clear e hf h hi hr1 hl hfl hvok hlN hlv hq0 hq2 hu hu2
    go_enter Try.func28, Try.ntmps28
    go_wp2
    go_ret
    exact OpPost.no H.out ((Below.refl _ _).alloc (Nat.le_refl _) _)
  | some f =>
    have e : σ.remove n = (0, σ.deed (dropF σ.fs n) 4 n) := by unfold St.remove; rw [hf]
    rw [e]
    rw [hf] at hr2
    have hnk : nameOk n = true := (hi.ok.fnd hf).2
    simp only [Option.isSome_some] at hr2
    generalize (valF (some f)).b.length = q3 at hr2
    generalize (valF (some f)).old.length = q4 at hr2
    generalize ((valF (some f)).st : Int) = st at hr2
    have Hnk := Lib.hid hnk
    have hb2 : Below w.heap.size w (w.alloc (.cells #[.slice P3 q3 c3, .slice P4 q4 c4, .int .i64 st] 69)) := (Below.refl _ _).alloc (Nat.le_refl _) _
    have Hb2 := Lib.hid hb2
    clear e hf hnk hb2 h hi hr1 hl hfl hvok hlN hlv hq0 hq2 hu hu2
    go_enter Try.func28, Try.ntmps28
    go_wp2_with fail
    refine (drop_any _ p c σ M A _ dv n (Hi.out.below Hb2.out) hn (by omega)).mono ?_
    rintro e w4 ⟨rfl, h4, t4, z4, -⟩
    have s2 := Hb2.out.size
    have h4' := (h4.mono (M' := Grw M _ w4) (A' := Grw (Grw A w _) _ w4) (c' := c + 1) (fun _ h => .inl h) (fun _ h => .inl (.inl h)) (grw_bd (fun k hk => Nat.lt_of_lt_of_le (Hi.out.ml k hk) s2) t4.size) (grw_bd (grw_bd Hi.out.al s2) t4.size) (Nat.le_succ c))
    have H4 := Lib.hid (show StoreAt _ _ _ _ _ _ from ⟨_, _, h4'⟩)
    have T4 := Lib.hid t4
    have Hops : Hid (σ.ops.length + 1 ≤ c + 1) := Lib.hid (Nat.succ_le_succ Hi.out.ok.ops)
    clear h4 t4 z4 h4' s2
    go_wp2_with fail
    refine (done_any w4 p (c + 1) _ _ _ 4 n H4.out Hnk.out (by omega) Hops.out (by omega)).mono ?_
    rintro e w5 ⟨rfl, h6, t6⟩
    have H6 := Lib.hid h6
    have T6 := Lib.hid t6
    clear h6 t6
    go_wp2
    go_ret
    exact OpPost.chain H.out Hb2.out T4.out ⟨rfl, H6.out, T6.out⟩
theorem OpPost.chain2 {w w3 w4 w5 : World} {p c : Nat} {σ σ'' : St} {M A : Nat → Prop} {v : Value} {e : Ending} {c' : Nat} (h : StoreAt w p σ c M A) (t3 : Tch M w w3) (t4 : Tch M w3 w4) (h5 : OpPost p σ'' c' (Grw M w3 w4) (Grw A w3 w4) v w4 e w5) : OpPost p σ'' c' M A v w e w5 := by
  obtain ⟨rfl, h6, t6⟩ := h5
  have s3 := t3.size
  have s4 := t4.size
  have s5 := t6.size
  refine ⟨rfl, h6.mono (fun k hk => ?_) (fun k hk => ?_) (grw_bd h.ml (by omega)) (grw_bd h.al (by omega)) (Nat.le_refl _), (t3.same t4).trans t6 fun k hk hg => ?_⟩
  · exact grw_mono s3 (Grw.trans s4 s5 hk)
  · exact grw_mono s3 (Grw.trans s4 s5 hk)
  · rcases hg with hg | hg
    · exact hg
    · omega
theorem sureF_of {f : SF} (h : f.ok) (hs : f.st = 2) : f = sureF f.b := by
  have h1 := h.none_ (by omega)
  cases f
  simp only at hs h1
  subst hs h1
  rfl
set_option maxRecDepth 100000 in
set_option maxHeartbeats 4000000 in
theorem sPublish_any {w : World} {p c : Nat} {σ : St} {M A : Nat → Prop} (a n : Nm) (h : StoreAt w p σ c M A) (ha : a.length ≤ 1000000) (hn : n.length ≤ 1000000) (hc : c ≤ 999999) :
    Calls Try.prog 26 #[.pointer (some ⟨p, 0, none⟩), .string (str a), .string (str n)] w (OpPost p (σ.publish a n).2 (c + 1) M A (.int .i64 (σ.publish a n).1) w) := by
  obtain ⟨mv, dv, hi⟩ := h
  have h : StoreAt w p σ c M A := ⟨mv, dv, hi⟩
  obtain ⟨r, e0⟩ := hi.map.isMap
  subst e0
  obtain ⟨vl, hl, hr1, hr2⟩ := look_any hi.map (n := a) (by simp [maxLen]; omega)
  have hvok : (valF (fnd σ.fs a)).ok := valF_ok fun f hf => (hi.ok.fnd hf).1
  have hfl := hl.file
  have hq0 := hi.blk.cell (i := 0) rfl
  have hq1 := hi.blk.cell (i := 1) rfl
  have hq2 := hi.blk.cell (i := 2) rfl
  obtain ⟨P3, c3, P4, c4, e3, _, _⟩ := hl.file.slices
  subst e3
  have hpl := hi.ml p hi.mp
  have hlv : (valF (fnd σ.fs a)).b.length = lenF (fnd σ.fs a) := by cases fnd σ.fs a <;> rfl
  have hu := hi.ok.used (by omega)
  have hu2 := lenF_le σ.fs a
  have hlN : n.length ≤ maxLen := by simp [maxLen]; omega
  have H := Lib.hid h
  have Hi := Lib.hid hi
  cases hnk : nameOk n with
  | false =>
    have e : σ.publish a n = (1, σ) := by unfold St.publish; rw [if_pos hnk]
    rw [e]
    have Hnk := Lib.hid hnk
    have HlN := Lib.hid hlN
    clear e hnk hr2 h hi hr1 hl hfl hvok hlN hlv hq0 hq2 hu hu2
    go_enter Try.func26, Try.ntmps26
    go_wp2_with fail
    refine (isName_any n _ HlN.out).mono ?_
    rintro e w1 ⟨rfl, rfl⟩
    rw [Hnk.out]
    go_wp2
    go_ret
    exact OpPost.no H.out (Below.refl _ _)
  | true =>
    have Hnk := Lib.hid hnk
    have HlN := Lib.hid hlN
    cases hf : fnd σ.fs a with
    | none =>
      have e : σ.publish a n = (5, σ) := by unfold St.publish; rw [if_neg (by simp [hnk]), hf]
      rw [e]
      rw [hf] at hr2
      simp only [Option.isSome_none] at hr2
      generalize (valF none).b.length = q3 at hr2
      generalize (valF none).old.length = q4 at hr2
      generalize ((valF none).st : Int) = st at hr2
      clear e hf hnk h hi hr1 hl hfl hvok hlN hlv hq0 hq2 hu hu2
      go_enter Try.func26, Try.ntmps26
      go_wp2_with fail
      refine (isName_any n _ HlN.out).mono ?_
      rintro e w1 ⟨rfl, rfl⟩
      rw [Hnk.out]
      go_wp2
      go_ret
      exact OpPost.no H.out ((Below.refl _ _).alloc (Nat.le_refl _) _)
    | some f =>
      rw [hf] at hr2 hfl hvok
      simp only [Option.isSome_some, valF, Option.getD_some] at hr2 hfl hvok
      have Hfl0 := Lib.hid hfl
      have Hvok := Lib.hid hvok
      obtain ⟨q3, hq3⟩ : ∃ q3, q3 = f.b.length := ⟨_, rfl⟩
      obtain ⟨q4, hq4⟩ : ∃ q4, q4 = f.old.length := ⟨_, rfl⟩
      obtain ⟨st, hst⟩ : ∃ st, st = (f.st : Int) := ⟨_, rfl⟩
      rw [← hq3, ← hq4, ← hst] at hr2 hfl
      have Hfl := Lib.hid hfl
      have Hst := Lib.hid hst
      by_cases h2 : st = 2
      · obtain ⟨ul, hul, _, hr3⟩ := look_any (w := w.alloc (.cells #[.slice P3 q3 c3, .slice P4 q4 c4, .int .i64 st] 69)) (hi.map.below ((Below.refl _ _).alloc (Nat.le_refl _) _)) (n := n) hlN
        obtain ⟨P5, c5, P6, c6, e6, _, _⟩ := hul.file.slices
        subst e6
        cases hg : fnd σ.fs n with
        | some g =>
          have e : σ.publish a n = (9, σ) := by unfold St.publish; rw [if_neg (by simp [hnk]), hf]; dsimp only; rw [if_neg (by omega), hg]; rfl
          rw [e]
          rw [hg] at hr3
          simp only [Option.isSome_some] at hr3
          generalize (valF (some g)).b.length = q5 at hr3
          generalize (valF (some g)).old.length = q6 at hr3
          generalize ((valF (some g)).st : Int) = st5 at hr3
          have hq1' : (w.alloc (.cells #[.slice P3 q3 c3, .slice P4 q4 c4, .int .i64 st] 69)).cell? ⟨p, 1, none⟩ = some (.map r) := ((Keeps.refl w).alloc _) _ _ hq1
          subst h2
          clear e hf hg hnk hul hq3 hq4 hst h hi hr1 hl hfl hvok hlN hlv hq0 hq2 hu hu2
          go_enter Try.func26, Try.ntmps26
          go_wp2_with fail
          refine (isName_any n _ HlN.out).mono ?_
          rintro e w1 ⟨rfl, rfl⟩
          rw [Hnk.out]
          go_wp2
          go_ret
          exact OpPost.no H.out (((Below.refl _ _).alloc (Nat.le_refl _) _).alloc (by simp) _)
        | none =>
          have e : σ.publish a n = (0, σ.deed (putF (dropF σ.fs a) n (sureF f.b)) 3 n) := by unfold St.publish; rw [if_neg (by simp [hnk]), hf]; dsimp only; rw [if_neg (by omega), hg]; rfl
          rw [e]
          rw [hg] at hr3
          simp only [Option.isSome_none] at hr3
          generalize (valF none).b.length = q5 at hr3
          generalize (valF none).old.length = q6 at hr3
          generalize ((valF none).st : Int) = st5 at hr3
          have hq1' : (w.alloc (.cells #[.slice P3 q3 c3, .slice P4 q4 c4, .int .i64 st] 69)).cell? ⟨p, 1, none⟩ = some (.map r) := ((Keeps.refl w).alloc _) _ _ hq1
          have hfs : f = sureF f.b := sureF_of hvok (by omega)
          have Hfs := Lib.hid hfs
          subst h2
          have hb2 : Below w.heap.size w ((w.alloc (.cells #[.slice P3 q3 c3, .slice P4 q4 c4, .int .i64 2] 69)).alloc (.cells #[.slice P5 q5 c5, .slice P6 q6 c6, .int .i64 st5] 69)) := ((Below.refl _ _).alloc (Nat.le_refl _) _).alloc (by simp) _
          obtain ⟨hbx, -, -, -⟩ := boxes2 (X := [.slice P3 q3 c3, .slice P4 q4 c4, .int .i64 2]) (Y := [.slice P5 q5 c5, .slice P6 q6 c6, .int .i64 st5]) (Below.refl ((w.alloc (.cells #[.slice P3 q3 c3, .slice P4 q4 c4, .int .i64 2] 69)).alloc (.cells #[.slice P5 q5 c5, .slice P6 q6 c6, .int .i64 st5] 69)).heap.size _)
          have Hb2 := Lib.hid hb2
          have Hbx := Lib.hid hbx
          clear e hf hg hnk hul hq3 hq4 hst hfs hb2 hbx h hi hr1 hl hfl hvok hlN hlv hq0 hq2 hu hu2
          go_enter Try.func26, Try.ntmps26
          go_wp2_with fail
          refine (isName_any n _ HlN.out).mono ?_
          rintro e w1 ⟨rfl, rfl⟩
          rw [Hnk.out]
          go_wp2_with fail
          refine (drop_any _ p c σ M A _ dv a (Hi.out.below Hb2.out) ha (by omega)).mono ?_
          rintro e w4 ⟨rfl, h4, t4, z4, y4⟩
          have s2 := Hb2.out.size
          have hx4 : Own 69 w4 w.heap.size [.slice P3 q3 c3, .slice P4 q4 c4, .int .i64 2] := (t4.block w.heap.size Hbx.out.lt fun hm => by have := Hi.out.ml _ hm; omega).trans Hbx.out
          have hv4 : FileV A w4 (.agg #[.slice P3 q3 c3, .slice P4 q4 c4, .int .i64 2]) (sureF f.b) := by
            have := y4.file (Hfl.out.below Hb2.out)
            rwa [← Hfs.out]
          have x0 := hx4.cell (i := 0) rfl
          have x1 := hx4.cell (i := 1) rfl
          have x2 := hx4.cell (i := 2) rfl
          have H4 := Lib.hid h4
          have T4 := Lib.hid t4
          have V4 := Lib.hid hv4
          have Hsu := Lib.hid (sureF_ok Hvok.out.b)
          clear h4 t4 z4 y4 s2 hx4 hv4 hr2 hr3 hq1 hq1'
          go_upto_region 12 with (fail)
          refine wp_region_held_drew (S := fun _ => True) (by kernel_rfl) trivial (fun hHeld => ?_)
          refine wpAnyH_take (i := 0) (v := ?vq0) rfl (by kernel_rfl) (by kernel_rfl) (by kernel_rfl) (fun _ _ _ h => h) (Or.inl ⟨by rfl, ?yq0⟩) hHeld ?rq0
          case yq0 => (intro W hW; go_simp; first | done | with_reducible rfl)
          try simp only [List.getElem_toArray, List.getElem_cons_zero, Act.put, List.setIfInBounds_toArray, List.set_cons_zero, List.set_cons_succ]
          refine wpAnyH_take (i := 1) (v := ?vq1) rfl (by kernel_rfl) (by kernel_rfl) (by kernel_rfl) (fun _ _ _ h => h) (Or.inl ⟨by rfl, ?yq1⟩) hHeld ?rq1
          case yq1 => (intro W hW; go_simp; first | done | with_reducible rfl)
          try simp only [List.getElem_toArray, List.getElem_cons_succ, List.getElem_cons_zero, Act.put, List.setIfInBounds_toArray, List.set_cons_zero, List.set_cons_succ]
          refine wpAnyH_take (i := 2) (v := ?vq2) rfl (by kernel_rfl) (by kernel_rfl) (by kernel_rfl) (fun _ _ _ h => h) (Or.inl ⟨by rfl, ?yq2⟩) hHeld ?rq2
          case yq2 => (intro W hW; go_simp; first | done | with_reducible rfl)
          try simp only [List.getElem_toArray, List.getElem_cons_succ, List.getElem_cons_zero, Act.put, List.setIfInBounds_toArray, List.set_cons_zero, List.set_cons_succ]
          refine wpAnyH_take (i := 3) (v := ?vq3) rfl (by kernel_rfl) (by kernel_rfl) (by kernel_rfl) (fun _ _ _ h => h) (Or.inl ⟨by rfl, ?yq3⟩) hHeld ?rq3
          case yq3 => (intro W hW; go_simp; first | done | with_reducible rfl)
          try simp only [List.getElem_toArray, List.getElem_cons_succ, List.getElem_cons_zero, Act.put, List.setIfInBounds_toArray, List.set_cons_zero, List.set_cons_succ]
          refine wpAnyH_ready (rs := [4]) (by kernel_rfl) (by simp) ?_
          refine AllReadyH.cons rfl (fun K hK => ?_) (AllReadyH.nil)
          go_simp
          refine hK.out _ _ trivial (fun hHeld => ?_)
          clear hK K
          try simp only [List.getElem_toArray, List.getElem_cons_succ, List.getElem_cons_zero, Act.put, List.setIfInBounds_toArray, List.set_cons_zero, List.set_cons_succ]
          refine wpAnyH_ready (rs := [5]) (by kernel_rfl) (by simp) ?_
          refine AllReadyH.cons rfl (fun K hK => ?_) (AllReadyH.nil)
          go_simp
          refine (put_any _ p c _ M A _ dv _ n _ (H4.out.drewN 1) (show FileV A (w4.drewN 1) _ _ from V4.out) Hsu.out Hnk.out hc).mono ?_
          rintro e w5 ⟨rfl, h5, t5⟩
          have H5 := Lib.hid h5
          have T5 := Lib.hid t5
          have Hops : Hid (σ.ops.length + 1 ≤ c + 1) := Lib.hid (Nat.succ_le_succ Hi.out.ok.ops)
          clear h5 t5
          go_wp2_with fail
          refine hK.out _ _ trivial (fun hHeld => ?_)
          clear hK K
          try simp only [List.getElem_toArray, List.getElem_cons_succ, List.getElem_cons_zero, Act.put, List.setIfInBounds_toArray, List.set_cons_zero, List.set_cons_succ]
          refine wpAnyH_done (by kernel_rfl) ?_ _
          go_wp2_with fail
          refine (done_any w5 p (c + 1) _ _ _ 3 n H5.out Hnk.out (by omega) Hops.out (by omega)).mono ?_
          rintro e w6 ⟨rfl, h6, t6⟩
          have H6 := Lib.hid h6
          have T6 := Lib.hid t6
          clear h6 t6
          go_wp2
          go_ret
          exact OpPost.chain2 H.out (((Tch.of_below M Hb2.out).same T4.out).drewN 1) T5.out ⟨rfl, H6.out, T6.out⟩
      · have e : σ.publish a n = (6, σ) := by unfold St.publish; rw [if_neg (by simp [hnk]), hf]; dsimp only; rw [if_pos (by omega)]
        rw [e]
        have d1 : (st != 2) = true := by simpa using h2
        clear e hf hnk hq3 hq4 hst h2 h hi hr1 hl hfl hvok hlN hlv hq0 hq2 hu hu2
        go_enter Try.func26, Try.ntmps26
        go_wp2_with fail
        refine (isName_any n _ HlN.out).mono ?_
        rintro e w1 ⟨rfl, rfl⟩
        rw [Hnk.out]
        go_wp2
        go_ret
        exact OpPost.no H.out ((Below.refl _ _).alloc (Nat.le_refl _) _)
end Go.Proofs.Ytgkgkekgmcldmaa
