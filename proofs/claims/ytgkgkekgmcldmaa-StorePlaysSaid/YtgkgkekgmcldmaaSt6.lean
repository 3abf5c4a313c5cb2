/- Package store's shelf: drop; what was done. -/
import Derived.Test.YtgkgkekgmcldmaaSt5
namespace Go.Proofs.Ytgkgkekgmcldmaa
open Go.RowKit
theorem wpList_delete_eq {P : Program} {ops : Array Oper} {rest : List Oper} {o : Oper} {a : Act} {w : World} {Q : Exit → Act → World → Prop} (hgd : o.guard = none) (s x : Operand) (t k : TypeId)
    (ho : o.op = .call { callee := .builtin .delete, args := #[s, x], argTypes := #[t, k] }) (v y v' : Value) (w' : World) (hs : a.eval s = v) (hx : a.eval x = y)
    (hrun : (Builtin.delete_ #[t, k] o.type #[v, y]).run P w = .ok v' w') (h : wpList P ops Q rest (a.put o.dst v') w') : wpList P ops Q (o :: rest) a w :=
  wpList_plain hgd fun _ hK => by
    unfold Oper.wp execOp
    simp only [ho, resolve, invoke, builtin, Sem.run_bind, Sem.run_pure, Result.andThen_ok, List.map_toArray, List.map_cons, List.map_nil, hs, hx, hrun]
    exact hK _ _ h
set_option maxRecDepth 100000 in
set_option maxHeartbeats 2000000 in
theorem drop_any (w : World) (p c : Nat) (σ : St) (M A : Nat → Prop) (mv dv : Value) (n : Nm) (h : StoreIn w p σ c M A mv dv) (hn : n.length ≤ 1000000) (hc : c ≤ 1000000) :
    Calls Try.prog 46 #[.pointer (some ⟨p, 1, none⟩), .string (str n)] w fun e w' => e = .returned (.tuple #[]) ∧ StoreIn w' p (σ.with (dropF σ.fs n)) c M A mv dv ∧ Tch M w w' ∧ w'.heap.size = w.heap.size ∧ Bys w w' := by
  obtain ⟨r, e0⟩ := h.map.isMap
  subst e0
  have hn2 : n.length ≤ maxLen := by simp [maxLen]; omega
  obtain ⟨vl, hl, hr1, _⟩ := look_any (w := w.drew) (h.map.stay (fun _ _ _ => rfl) (fun _ _ => rfl)) (n := n) hn2
  obtain ⟨P3, c3, P4, c4, e3, _, _⟩ := hl.file.slices
  subst e3
  have hu := h.ok.used hc
  have hu2 := lenF_le σ.fs n
  have hlv : (valF (fnd σ.fs n)).b.length = lenF (fnd σ.fs n) := by cases fnd σ.fs n <;> rfl
  rw [hlv] at hr1
  have hup := used_drop σ.fs n
  have hq1 := h.blk.cell (i := 1) rfl
  have hq2 := h.blk.cell (i := 2) rfl
  have hqf := h.blk.frozen
  obtain ⟨u, hu'⟩ : ∃ u, u = usedF σ.fs := ⟨_, rfl⟩
  obtain ⟨l0, hl0⟩ : ∃ l0, l0 = lenF (fnd σ.fs n) := ⟨_, rfl⟩
  rw [← hu'] at hu hu2 hup hq2
  rw [← hl0] at hu2 hup hr1
  have hw1 : IntKind.i64.wrap ((u : Int) - (l0 : Int)) = (u : Int) - (l0 : Int) := IntWalk.i64_in _ (by omega)
  obtain ⟨W4, hW4⟩ : ∃ W4, W4 = (w.setCell ⟨p, 2, none⟩ (.int .i64 ((u : Int) - (l0 : Int)))).drew := ⟨_, rfl⟩
  have b4 : Own 59 W4 p [.int .i64 σ.lim, .map r, .int .i64 ((u : Int) - (l0 : Int)), dv] := hW4 ▸ h.blk.set_ 2 _
  have m4 : MapV A W4 (.map r) σ.fs c := hW4 ▸ h.map.set (Ty.of h.blk) (by decide) _ _
  have o4 : W4.ownsRow 0 48 2 dv σ.ops.length (opCells σ.ops) := hW4 ▸ own_set h.ops (Ty.of h.blk) (by decide) _ _
  have t4 : Tch M w W4 := hW4 ▸ (Tch.setCell h.mp w 2 (.int .i64 ((u : Int) - (l0 : Int)))).drewN 1
  have s4 : W4.heap.size = w.heap.size := by rw [hW4]; simp [World.setCell]
  obtain ⟨w6, hr6, m6, z6, t6, y6⟩ := mapDel m4 h.ok.rising hn2 0
  have keep : ∀ k, k < W4.heap.size → (.map r ≠ Value.map (some k)) → w6.heap[k]? = W4.heap[k]? := fun k hk hne => t6.block k hk hne
  have b6 : Own 59 w6 p [.int .i64 σ.lim, .map r, .int .i64 ((u : Int) - (l0 : Int)), dv] := (keep p b4.lt fun e => by
    injection e with e
    subst e
    obtain ⟨D, k, hm⟩ := m4.owns
    exact map_ty hm (Ty.of b4) rfl).trans b4
  have o6 : w6.ownsRow 0 48 2 dv σ.ops.length (opCells σ.ops) := own_stay o4 fun k hk => keep k (o4.lt k hk).2 fun e => by
    injection e with e
    subst e
    obtain ⟨D, k', hm⟩ := m4.owns
    exact row_ne_map o4 hm k hk rfl
  have hfin : StoreIn w6 p (σ.with (dropF σ.fs n)) c M A (.map r) dv := by
    refine ⟨?_, h.ok.dropped n, m6, o6, h.mp, h.mm, h.md, fun k hk => ?_, fun k hk => ?_⟩
    · have e : ((u : Int) - (l0 : Int)) = (usedF (dropF σ.fs n) : Int) := by omega
      rw [e] at b6
      exact b6
    · have := h.ml k hk; omega
    · have := h.al k hk; omega
  have htf : Tch M w w6 := t4.trans t6 fun k _ e => h.mm k e
  have hy4 : Bys w W4 := hW4 ▸ fun b n v xs h' => own_set h' (Ty.of h.blk) (by decide) _ _
  have Hy := Lib.hid (hy4.trans y6)
  have Hfin := Lib.hid hfin
  have Htf := Lib.hid htf
  have Hsf : Hid (w6.heap.size = w.heap.size) := Lib.hid (z6.trans s4)
  have Hr6 := Lib.hid hr6
  have HW4 := Lib.hid hW4
  have p1 := b4.cell (i := 1) rfl
  have hfd := field0
  clear hy4 y6 b4 m4 o4 t4 s4 hr6 m6 z6 t6 keep b6 o6 hfin htf hup hl0 hu' hl hlv hu hu2 h hn hn2 hc hW4
  go_enter Try.func46, Try.ntmps46
  go_upto_region 0 with (fail)
  go_still_tail 15, (by kernel_rfl)
  change wpList _ _ _ _ _ w.drew
  clear hr1 hw1 hfd
  go_upto_region 1 with (fail)
  rw [← HW4.out]
  clear HW4
  go_wp2_with (refine wpList_delete_eq rfl (.tmp 22) (.tmp 23) 54 9 rfl _ _ _ _ rfl rfl Hr6.out ?_)
  go_end0
  exact ⟨rfl, Hfin.out, Htf.out, Hsf.out, Hy.out⟩

/-! ### What was done -/
theorem infoOp : (Try.prog.info? 48).map (fun i => (i.zero, i.size, i.bytes)) = some (some (.agg #[.int .i64 0, .string ⟨#[]⟩]), 2, 24) := by kernel_rfl
theorem step_append_eq {P : Program} {ops : Array Oper} {o : Oper} {a : Act} {w : World} {K : Act → World → Prop} {Q : Exit → Act → World → Prop} {E : Prop} (hgd : o.guard = none) (s x : Operand) (t : TypeId)
    (ho : o.op = .call { callee := .builtin .append, args := #[s, x], argTypes := #[t, t] }) (v y v' : Value) (w' : World) (hs : a.eval s = v) (hx : a.eval x = y)
    (hrun : (Builtin.append_ #[t, t] o.type #[v, y]).run P w = .ok v' w') (h : K (a.put o.dst v') w') : if Region.wanted o (yielded ops a.tmps) = true then Oper.wp P o a w K Q else E := by
  have hw : Region.wanted o (yielded ops a.tmps) = true := by simp [Region.wanted, hgd]
  rw [if_pos hw]
  unfold Oper.wp execOp
  simp only [ho, resolve, invoke, builtin, Sem.run_bind, Sem.run_pure, Result.andThen_ok, List.map_toArray, List.map_cons, List.map_nil, hs, hx, hrun]
  exact h
theorem oper_append {P : Program} {o : Oper} {a : Act} {w : World} {K : Act → World → Prop} {Q : Exit → Act → World → Prop} (s x : Operand) (t : TypeId)
    (ho : o.op = .call { callee := .builtin .append, args := #[s, x], argTypes := #[t, t] }) (v u v' : Value) (w' : World) (hs : a.eval s = v) (hx : a.eval x = u)
    (hrun : (Builtin.append_ #[t, t] o.type #[v, u]).run P w = .ok v' w') (h : K (a.put o.dst v') w') : Oper.wp P o a w K Q := by
  unfold Oper.wp execOp
  simp only [ho, resolve, invoke, builtin, Sem.run_bind, Sem.run_pure, Result.andThen_ok, List.map_toArray, List.map_cons, List.map_nil, hs, hx, hrun]
  exact h
theorem St.ok.deed {σ : St} {c : Nat} (h : σ.ok c) (hl : σ.ops.length + 1 ≤ c) {k : Int} (hk : 0 ≤ k ∧ k ≤ 4) {n : Nm} (hn : nameOk n = true) : (σ.deed σ.fs k n).ok c := by
  refine ⟨h.rising, h.names, h.files, h.few, ?_, fun p hp => ?_, h.lim⟩
  · show (σ.ops ++ [(k, n)]).length ≤ c
    simp; omega
  · rcases List.mem_append.1 hp with hp | hp
    · exact h.onames p hp
    · simp at hp; subst hp; exact ⟨hn, hk⟩
theorem StoreIn.put_all {w w6 : World} {p c : Nat} {σ σ' : St} {M A : Nat → Prop} {mv dv dv' : Value} (h : StoreIn w p σ c M A mv dv) (hf : σ'.fs = σ.fs) (hok : σ'.ok c) (hs : w.heap.size ≤ w6.heap.size)
    (blk : Own 59 w6 p [.int .i64 σ'.lim, mv, .int .i64 (usedF σ'.fs : Int), dv']) (map : MapV A w6 mv σ.fs c) (ops : w6.ownsRow 0 48 2 dv' σ'.ops.length (opCells σ'.ops))
    (md : ∀ k, dv'.ownBlock = some k → Grw M w w6 k) : StoreIn w6 p σ' c (Grw M w w6) (Grw A w w6) mv dv' := by
  refine ⟨blk, hok, hf ▸ map.mono (fun k hk => .inl hk) (Nat.le_refl _), ops, .inl h.mp, fun b e => .inl (h.mm b e), md, fun k hk => ?_, fun k hk => ?_⟩
  · rcases hk with hk | hk
    · have := h.ml k hk; omega
    · exact hk.2
  · rcases hk with hk | hk
    · have := h.al k hk; omega
    · exact hk.2
theorem deed_step {w w5 : World} {p c : Nat} {σ : St} {M A : Nat → Prop} {mv dv : Value} (h : StoreIn w p σ c M A mv dv) (hb : Below w.heap.size w w5) (hl : σ.ops.length + 1 ≤ c) (hc : c ≤ 1000000) {k : Int} (hk : 0 ≤ k ∧ k ≤ 4) {n : Nm} (hn : nameOk n = true) :
    ∃ g d w6, (Builtin.append_ #[57, 57] 57 #[dv, .slice (some ⟨w5.heap.size, 0, none⟩) 1 1]).run Try.prog (w5.alloc (.cells #[.int .i64 k, .string (str n)] 48)) = .ok (.slice (some ⟨g, 0, none⟩) (σ.ops.length + 1) d) w6 ∧
      w6.cell? ⟨p, 3, none⟩ = some dv ∧ w6.frozen? ⟨p, 3, none⟩ = false ∧
      StoreAt (w6.setCell ⟨p, 3, none⟩ (.slice (some ⟨g, 0, none⟩) (σ.ops.length + 1) d)) p (σ.deed σ.fs k n) c (Grw M w (w6.setCell ⟨p, 3, none⟩ (.slice (some ⟨g, 0, none⟩) (σ.ops.length + 1) d))) (Grw A w (w6.setCell ⟨p, 3, none⟩ (.slice (some ⟨g, 0, none⟩) (σ.ops.length + 1) d))) ∧
      Tch M w (w6.setCell ⟨p, 3, none⟩ (.slice (some ⟨g, 0, none⟩) (σ.ops.length + 1) d)) := by
  obtain ⟨i0, hi, hz0, hz1, hz2⟩ := info_parts infoOp
  have h5 := h.below hb
  have hba : Below w5.heap.size w5 (w5.alloc (.cells #[.int .i64 k, .string (str n)] 48)) := (Below.refl _ _).alloc (Nat.le_refl _) _
  have ha := h5.below hba
  obtain ⟨v', w6, hrun, ho, hgr, _, hat⟩ := run_append_own_at (P := Try.prog) (w5.alloc (.cells #[.int .i64 k, .string (str n)] 48)) 0 57 57 48 i0 _ 2 24 Try.underlying57 hi hz0 hz1 hz2 rfl (by omega) dv σ.ops.length (opCells σ.ops) ha.ops
    ⟨w5.heap.size, 0, none⟩ 1 1 [.int .i64 k, .string (str n)] rfl (fun j u hu => by
      rw [add0, show (w5.alloc (.cells #[.int .i64 k, .string (str n)] 48)).cell? ⟨w5.heap.size, j, none⟩ = #[.int .i64 k, .string (str n)][j]? from cell_of_row _ _ _ _ 48 (0, 0) (heap_alloc_new w5 _)]
      simpa using hu)
    (by intro u hu; simp at hu; rcases hu with rfl | rfl <;> rfl) (by simp [maxLen]; omega) (by omega) (by omega)
  obtain ⟨g, d, rfl⟩ : ∃ g d, v' = .slice (some ⟨g, 0, none⟩) (σ.ops.length + 1) d := by
    rcases own_form0 ho with ⟨_, h0⟩ | ⟨g, d, e, _⟩
    · omega
    · exact ⟨g, d, e⟩
  have hgrow := hgr
  have hty := Ty.of ha.blk
  have hpd : ∀ j, dv.ownBlock = some j → j ≠ p := ops_ty ha.ops hty (by decide)
  have hbk : Own 59 w6 p [.int .i64 σ.lim, mv, .int .i64 (usedF σ.fs : Int), dv] := (hgr.block p ha.blk.lt fun e => hpd p e.symm rfl).trans ha.blk
  have hmap : MapV A w6 mv σ.fs c := by
    rcases h.map.isMap with ⟨r, rfl⟩
    rcases dvn : dv.ownBlock with _ | j
    · rw [dvn] at hgr
      exact ha.map.stay (fun k _ hk => hgr.block k hk (by simp)) fun b e => by
        obtain rfl : r = some b := Value.map.inj e
        obtain ⟨D, k', hm⟩ := ha.map.owns
        exact hgr.block b hm.lt (by simp)
    · have hne : ∀ b, r = some b → j ≠ b := fun b e => by
        subst e
        obtain ⟨D, k', hm⟩ := ha.map.owns
        exact row_ne_map ha.ops hm j dvn
      rcases ha.map with ⟨e, hfs⟩ | ⟨b, D, k', e, h1, h2, h3, h4⟩
      · exact .inl ⟨e, hfs⟩
      · injection e with e
        refine .inr ⟨b, D, k', by rw [e], map_stay h1 (hgr.block b h1.lt (by rw [dvn]; intro e2; injection e2 with e2; exact hne b e e2.symm)), h2, h3, fun m f hf => ?_⟩
        obtain ⟨v, h5', h6⟩ := h4 m f hf
        obtain ⟨vn, vb, rfl, hn1, hb1⟩ := h6
        exact ⟨_, h5', vn, vb, rfl, ⟨hn1.1.kept hgr (own_apart hn1.1 ha.ops (by decide)), hn1.2⟩, ⟨hb1.1.kept hgr (own_apart hb1.1 ha.ops (by decide)), hb1.2⟩⟩
  have t6 : Tch M w w6 := (Tch.of_below M hb).trans ((Tch.of_below M hba).trans (Tch.of_grown (M := M) hgr fun k e => h.md k e) fun _ _ hm => hm) fun _ _ hm => hm
  have hs6 : w5.heap.size + 1 ≤ w6.heap.size := by have := hgr.size; simpa using this
  have hs5 := hb.size
  have hty6 : Ty w6 p 59 := Ty.of hbk
  refine ⟨g, d, w6, hrun, hbk.cell (i := 3) rfl, hbk.frozen 3, ⟨mv, .slice (some ⟨g, 0, none⟩) (σ.ops.length + 1) d, h.put_all (σ' := σ.deed σ.fs k n) rfl (h.ok.deed hl hk hn) (by simp [World.setCell]; omega) (hbk.set_ 3 _) (hmap.set hty6 (by decide) _ _) ?_ ?_⟩, t6.same (Tch.setCell h.mp w6 3 _)⟩
  · have e : (opCells (σ.deed σ.fs k n).ops) = opCells σ.ops ++ [.int .i64 k, .string (str n)] := opCells_snoc _ _
    have e2 : (σ.deed σ.fs k n).ops.length = σ.ops.length + 1 := by simp [St.deed]
    rw [e, e2]
    exact own_set ho hty6 (by decide) _ _
  · intro j hj
    have hlt := (ho.lt j hj).2
    rcases hat with hat | hat
    · rw [hat] at hj
      exact .inl (h.md j hj)
    · rw [hat] at hj
      injection hj with hj
      have e : (w5.alloc (.cells #[.int .i64 k, .string (str n)] 48)).heap.size = w5.heap.size + 1 := by simp
      rw [e] at hj
      have e2 : (w6.setCell ⟨p, 3, none⟩ (.slice (some ⟨g, 0, none⟩) (σ.ops.length + 1) d)).heap.size = w6.heap.size := by simp [World.setCell]
      exact .inr ⟨by omega, by rw [e2]; exact hlt⟩
set_option maxRecDepth 100000 in
set_option maxHeartbeats 2000000 in
theorem done_any (w : World) (p c : Nat) (σ : St) (M A : Nat → Prop) (k : Int) (n : Nm) (h : StoreAt w p σ c M A) (hn : nameOk n = true) (hk : 0 ≤ k ∧ k ≤ 4) (hl : σ.ops.length + 1 ≤ c) (hc : c ≤ 1000000) :
    Calls Try.prog 36 #[.pointer (some ⟨p, 0, none⟩), .int .i64 k, .string (str n)] w (OpPost p (σ.deed σ.fs k n) c M A (.int .i64 0) w) := by
  obtain ⟨mv, dv, h⟩ := h
  have hstep := fun w5 (hb : Below w.heap.size w w5) => deed_step (k := k) (n := n) h hb hl hc hk hn
  have q3 := h.blk.cell (i := 3) rfl
  have hls : (str n).size ≤ 281474976710656 := by rw [str_size]; have := nameOk_le hn; omega
  have Hstep := Lib.hid hstep
  have Hls := Lib.hid hls
  obtain ⟨P1, n1, c1, e1⟩ : ∃ P1 n1 c1, dv = .slice P1 n1 c1 := by
    obtain ⟨P, c, hv, _⟩ := own_form h.ops
    exact ⟨P, _, c, hv⟩
  subst e1
  clear hstep hls h hn hk hl hc
  go_enter Try.func36, Try.ntmps36
  go_upto_region 1 with (fail)
  refine wp_region_held_drew (S := fun _ => True) (by kernel_rfl) trivial (fun hHeld => ?_)
  refine wpAnyH_take (i := 0) (v := ?vd0) rfl (by kernel_rfl) (by kernel_rfl) (by kernel_rfl) (fun _ _ _ h => h) (Or.inl ⟨by rfl, ?yd0⟩) hHeld ?rd0
  case yd0 => (intro W hW; go_simp; first | done | with_reducible rfl)
  try simp only [List.getElem_toArray, List.getElem_cons_zero, Act.put, List.setIfInBounds_toArray, List.set_cons_zero, List.set_cons_succ]
  refine wpAnyH_take (i := 1) (v := ?vd1) rfl (by kernel_rfl) (by kernel_rfl) (by kernel_rfl) (fun _ _ _ h => h) (Or.inl ⟨by rfl, ?yd1⟩) hHeld ?rd1
  case yd1 => (intro W hW; go_simp; first | done | with_reducible rfl)
  try simp only [List.getElem_toArray, List.getElem_cons_succ, List.getElem_cons_zero, Act.put, List.setIfInBounds_toArray, List.set_cons_zero, List.set_cons_succ]
  refine wpAnyH_take (i := 2) (v := ?vd2) rfl (by kernel_rfl) (by kernel_rfl) (by kernel_rfl) (fun _ _ _ h => h) (Or.inl ⟨by rfl, ?yd2⟩) hHeld ?rd2
  case yd2 => (intro W hW; go_simp; first | done | with_reducible rfl)
  try simp only [List.getElem_toArray, List.getElem_cons_succ, List.getElem_cons_zero, Act.put, List.setIfInBounds_toArray, List.set_cons_zero, List.set_cons_succ]
  refine wpAnyH_take (i := 3) (v := ?vd3) rfl (by kernel_rfl) (by kernel_rfl) (by kernel_rfl) (fun _ _ _ h => h) (Or.inl ⟨by rfl, ?yd3⟩) hHeld ?rd3
  case yd3 => (intro W hW; go_simp; first | done | with_reducible rfl)
  try simp only [List.getElem_toArray, List.getElem_cons_succ, List.getElem_cons_zero, Act.put, List.setIfInBounds_toArray, List.set_cons_zero, List.set_cons_succ]
  refine wpAnyH_take (i := 5) (v := ?vd5) rfl (by kernel_rfl) (by kernel_rfl) (by kernel_rfl) (fun _ _ _ h => h) (Or.inl ⟨by rfl, ?yd5⟩) hHeld ?rd5
  case yd5 => (intro W hW; go_simp; first | done | with_reducible rfl)
  try simp only [List.getElem_toArray, List.getElem_cons_succ, List.getElem_cons_zero, Act.put, List.setIfInBounds_toArray, List.set_cons_zero, List.set_cons_succ]
  refine wpAnyH_take (i := 6) (v := ?vd6) rfl (by kernel_rfl) (by kernel_rfl) (by kernel_rfl) (fun _ _ _ h => h) (Or.inl ⟨by rfl, ?yd6⟩) hHeld ?rd6
  case yd6 => (intro W hW; go_simp; first | done | with_reducible rfl)
  try simp only [List.getElem_toArray, List.getElem_cons_succ, List.getElem_cons_zero, Act.put, List.setIfInBounds_toArray, List.set_cons_zero, List.set_cons_succ]
  refine wpAnyH_ready (rs := [4, 7]) (by kernel_rfl) (by simp) ?_
  refine AllReadyH.cons rfl (fun K hK => ?_) (AllReadyH.cons rfl (fun K hK => ?_) (AllReadyH.nil))
  · go_simp
    refine hK.out _ _ trivial (fun hHeld => ?_)
    clear hK K
    try simp only [List.getElem_toArray, List.getElem_cons_succ, List.getElem_cons_zero, Act.put, List.setIfInBounds_toArray, List.set_cons_zero, List.set_cons_succ]
    refine wpAnyH_ready (rs := [7]) (by kernel_rfl) (by simp) ?_
    refine AllReadyH.cons rfl (fun K hK => ?_) (AllReadyH.nil)
    go_simp
    refine (clone_any (str n) _ Hls.out).mono ?_
    rintro e w5 ⟨rfl, hb5⟩
    obtain ⟨g, d, w6, hr, z1, z2, z3, z4⟩ := Hstep.out w5 ((below_drewN (Below.refl _ _) 1).trans hb5)
    have q5 : w5.cell? ⟨p, 3, none⟩ = some (.slice P1 n1 c1) := (Keeps.of_below ((below_drewN (Below.refl _ _) 1).trans hb5) : Keeps w w5) _ _ q3
    have q6 : (w5.alloc (.cells #[.int .i64 k, .string (str n)] 48)).cell? ⟨p, 3, none⟩ = some (.slice P1 n1 c1) := ((Keeps.refl w5).alloc _) _ _ q5
    have Hr := Lib.hid hr
    have Z3 := Lib.hid z3
    have Z4 := Lib.hid z4
    clear hr z3 z4 hb5
    go_wp2_with fail
    refine hK.out _ _ trivial (fun hHeld => ?_)
    clear hK K
    try simp only [List.getElem_toArray, List.getElem_cons_succ, List.getElem_cons_zero, Act.put, List.setIfInBounds_toArray, List.set_cons_zero, List.set_cons_succ]
    refine wpAnyH_take (i := 8) (v := ?va8) rfl (by kernel_rfl) (by kernel_rfl) (by kernel_rfl) (fun _ _ _ h => h) (Or.inl ⟨by rfl, ?ya8⟩) hHeld ?ra8
    case ya8 => (intro W hW; go_simp; first | done | with_reducible rfl)
    try simp only [List.getElem_toArray, List.getElem_cons_succ, List.getElem_cons_zero, Act.put, List.setIfInBounds_toArray, List.set_cons_zero, List.set_cons_succ]
    refine wpAnyH_ready (rs := [9]) (by kernel_rfl) (by simp) ?_
    refine AllReadyH.cons rfl (fun K hK => ?_) (AllReadyH.nil)
    go_simp
    refine hK.out _ _ trivial (fun hHeld => ?_)
    clear hK K
    try simp only [List.getElem_toArray, List.getElem_cons_succ, List.getElem_cons_zero, Act.put, List.setIfInBounds_toArray, List.set_cons_zero, List.set_cons_succ]
    refine wpAnyH_ready (rs := [10]) (by kernel_rfl) (by simp) ?_
    refine AllReadyH.cons rfl (fun K hK => ?_) (AllReadyH.nil)
    rw [if_pos (by rfl)]
    refine oper_append (.tmp 11) (.tmp 16) 57 rfl _ _ _ _ rfl rfl Hr.out ?_
    refine hK.out _ _ trivial (fun hHeld => ?_)
    clear hK K
    try simp only [List.getElem_toArray, List.getElem_cons_succ, List.getElem_cons_zero, Act.put, List.setIfInBounds_toArray, List.set_cons_zero, List.set_cons_succ]
    refine wpAnyH_take (i := 11) (v := ?va11) rfl (by kernel_rfl) (by kernel_rfl) (by kernel_rfl) (fun _ _ _ h => h) (Or.inl ⟨by rfl, ?ya11⟩) hHeld ?ra11
    case ya11 => (intro W hW; go_simp; first | done | with_reducible rfl)
    try simp only [List.getElem_toArray, List.getElem_cons_succ, List.getElem_cons_zero, Act.put, List.setIfInBounds_toArray, List.set_cons_zero, List.set_cons_succ]
    refine wpAnyH_take (i := 12) (v := ?va12) rfl (by kernel_rfl) (by kernel_rfl) (by kernel_rfl) (fun _ _ _ h => h) (Or.inl ⟨by rfl, ?ya12⟩) hHeld ?ra12
    case ya12 => (intro W hW; go_simp; first | done | with_reducible rfl)
    try simp only [List.getElem_toArray, List.getElem_cons_succ, List.getElem_cons_zero, Act.put, List.setIfInBounds_toArray, List.set_cons_zero, List.set_cons_succ]
    refine wpAnyH_ready (rs := [13]) (by kernel_rfl) (by simp) ?_
    refine AllReadyH.cons rfl (fun K hK => ?_) (AllReadyH.nil)
    go_simp
    refine hK.out _ _ trivial (fun hHeld => ?_)
    clear hK K
    try simp only [List.getElem_toArray, List.getElem_cons_succ, List.getElem_cons_zero, Act.put, List.setIfInBounds_toArray, List.set_cons_zero, List.set_cons_succ]
    refine wpAnyH_done (by kernel_rfl) ?_ _
    go_wp2
    go_ret
    exact ⟨rfl, Z3.out, Z4.out⟩
  · go_simp
    refine (clone_any (str n) _ Hls.out).mono ?_
    rintro e w5 ⟨rfl, hb5⟩
    obtain ⟨g, d, w6, hr, z1, z2, z3, z4⟩ := Hstep.out w5 ((below_drewN (Below.refl _ _) 1).trans hb5)
    have q5 : w5.cell? ⟨p, 3, none⟩ = some (.slice P1 n1 c1) := (Keeps.of_below ((below_drewN (Below.refl _ _) 1).trans hb5) : Keeps w w5) _ _ q3
    have q6 : (w5.alloc (.cells #[.int .i64 k, .string (str n)] 48)).cell? ⟨p, 3, none⟩ = some (.slice P1 n1 c1) := ((Keeps.refl w5).alloc _) _ _ q5
    have Hr := Lib.hid hr
    have Z3 := Lib.hid z3
    have Z4 := Lib.hid z4
    clear hr z3 z4 hb5
    go_wp2_with fail
    refine hK.out _ _ trivial (fun hHeld => ?_)
    clear hK K
    try simp only [List.getElem_toArray, List.getElem_cons_succ, List.getElem_cons_zero, Act.put, List.setIfInBounds_toArray, List.set_cons_zero, List.set_cons_succ]
    refine wpAnyH_take (i := 8) (v := ?ve8) rfl (by kernel_rfl) (by kernel_rfl) (by kernel_rfl) (fun _ _ _ h => h) (Or.inl ⟨by rfl, ?ye8⟩) hHeld ?re8
    case ye8 => (intro W hW; go_simp; first | done | with_reducible rfl)
    try simp only [List.getElem_toArray, List.getElem_cons_succ, List.getElem_cons_zero, Act.put, List.setIfInBounds_toArray, List.set_cons_zero, List.set_cons_succ]
    refine wpAnyH_ready (rs := [4, 9]) (by kernel_rfl) (by simp) ?_
    refine AllReadyH.cons rfl (fun K hK => ?_) (AllReadyH.cons rfl (fun K hK => ?_) (AllReadyH.nil))
    · go_simp
      refine hK.out _ _ trivial (fun hHeld => ?_)
      clear hK K
      try simp only [List.getElem_toArray, List.getElem_cons_succ, List.getElem_cons_zero, Act.put, List.setIfInBounds_toArray, List.set_cons_zero, List.set_cons_succ]
      refine wpAnyH_ready (rs := [9]) (by kernel_rfl) (by simp) ?_
      refine AllReadyH.cons rfl (fun K hK => ?_) (AllReadyH.nil)
      go_simp
      refine hK.out _ _ trivial (fun hHeld => ?_)
      clear hK K
      try simp only [List.getElem_toArray, List.getElem_cons_succ, List.getElem_cons_zero, Act.put, List.setIfInBounds_toArray, List.set_cons_zero, List.set_cons_succ]
      refine wpAnyH_ready (rs := [10]) (by kernel_rfl) (by simp) ?_
      refine AllReadyH.cons rfl (fun K hK => ?_) (AllReadyH.nil)
      rw [if_pos (by rfl)]
      refine oper_append (.tmp 11) (.tmp 16) 57 rfl _ _ _ _ rfl rfl Hr.out ?_
      refine hK.out _ _ trivial (fun hHeld => ?_)
      clear hK K
      try simp only [List.getElem_toArray, List.getElem_cons_succ, List.getElem_cons_zero, Act.put, List.setIfInBounds_toArray, List.set_cons_zero, List.set_cons_succ]
      refine wpAnyH_take (i := 11) (v := ?vb11) rfl (by kernel_rfl) (by kernel_rfl) (by kernel_rfl) (fun _ _ _ h => h) (Or.inl ⟨by rfl, ?yb11⟩) hHeld ?rb11
      case yb11 => (intro W hW; go_simp; first | done | with_reducible rfl)
      try simp only [List.getElem_toArray, List.getElem_cons_succ, List.getElem_cons_zero, Act.put, List.setIfInBounds_toArray, List.set_cons_zero, List.set_cons_succ]
      refine wpAnyH_take (i := 12) (v := ?vb12) rfl (by kernel_rfl) (by kernel_rfl) (by kernel_rfl) (fun _ _ _ h => h) (Or.inl ⟨by rfl, ?yb12⟩) hHeld ?rb12
      case yb12 => (intro W hW; go_simp; first | done | with_reducible rfl)
      try simp only [List.getElem_toArray, List.getElem_cons_succ, List.getElem_cons_zero, Act.put, List.setIfInBounds_toArray, List.set_cons_zero, List.set_cons_succ]
      refine wpAnyH_ready (rs := [13]) (by kernel_rfl) (by simp) ?_
      refine AllReadyH.cons rfl (fun K hK => ?_) (AllReadyH.nil)
      go_simp
      refine hK.out _ _ trivial (fun hHeld => ?_)
      clear hK K
      try simp only [List.getElem_toArray, List.getElem_cons_succ, List.getElem_cons_zero, Act.put, List.setIfInBounds_toArray, List.set_cons_zero, List.set_cons_succ]
      refine wpAnyH_done (by kernel_rfl) ?_ _
      go_wp2
      go_ret
      exact ⟨rfl, Z3.out, Z4.out⟩
    · go_simp
      refine hK.out _ _ trivial (fun hHeld => ?_)
      clear hK K
      try simp only [List.getElem_toArray, List.getElem_cons_succ, List.getElem_cons_zero, Act.put, List.setIfInBounds_toArray, List.set_cons_zero, List.set_cons_succ]
      refine wpAnyH_ready (rs := [4]) (by kernel_rfl) (by simp) ?_
      refine AllReadyH.cons rfl (fun K hK => ?_) (AllReadyH.nil)
      go_simp
      refine hK.out _ _ trivial (fun hHeld => ?_)
      clear hK K
      try simp only [List.getElem_toArray, List.getElem_cons_succ, List.getElem_cons_zero, Act.put, List.setIfInBounds_toArray, List.set_cons_zero, List.set_cons_succ]
      refine wpAnyH_ready (rs := [10]) (by kernel_rfl) (by simp) ?_
      refine AllReadyH.cons rfl (fun K hK => ?_) (AllReadyH.nil)
      rw [if_pos (by rfl)]
      refine oper_append (.tmp 11) (.tmp 16) 57 rfl _ _ _ _ rfl rfl Hr.out ?_
      refine hK.out _ _ trivial (fun hHeld => ?_)
      clear hK K
      try simp only [List.getElem_toArray, List.getElem_cons_succ, List.getElem_cons_zero, Act.put, List.setIfInBounds_toArray, List.set_cons_zero, List.set_cons_succ]
      refine wpAnyH_take (i := 11) (v := ?vc11) rfl (by kernel_rfl) (by kernel_rfl) (by kernel_rfl) (fun _ _ _ h => h) (Or.inl ⟨by rfl, ?yc11⟩) hHeld ?rc11
      case yc11 => (intro W hW; go_simp; first | done | with_reducible rfl)
      try simp only [List.getElem_toArray, List.getElem_cons_succ, List.getElem_cons_zero, Act.put, List.setIfInBounds_toArray, List.set_cons_zero, List.set_cons_succ]
      refine wpAnyH_take (i := 12) (v := ?vc12) rfl (by kernel_rfl) (by kernel_rfl) (by kernel_rfl) (fun _ _ _ h => h) (Or.inl ⟨by rfl, ?yc12⟩) hHeld ?rc12
      case yc12 => (intro W hW; go_simp; first | done | with_reducible rfl)
      try simp only [List.getElem_toArray, List.getElem_cons_succ, List.getElem_cons_zero, Act.put, List.setIfInBounds_toArray, List.set_cons_zero, List.set_cons_succ]
      refine wpAnyH_ready (rs := [13]) (by kernel_rfl) (by simp) ?_
      refine AllReadyH.cons rfl (fun K hK => ?_) (AllReadyH.nil)
      go_simp
      refine hK.out _ _ trivial (fun hHeld => ?_)
      clear hK K
      try simp only [List.getElem_toArray, List.getElem_cons_succ, List.getElem_cons_zero, Act.put, List.setIfInBounds_toArray, List.set_cons_zero, List.set_cons_succ]
      refine wpAnyH_done (by kernel_rfl) ?_ _
      go_wp2
      go_ret
      exact ⟨rfl, Z3.out, Z4.out⟩
end Go.Proofs.Ytgkgkekgmcldmaa
