/- Package match's first: the first of the least choices. -/
import Derived.WalkMore
import Derived.Test.YtnjalnnbdmmcmaaMat5
namespace Go.Proofs.Ytnjalnnbdmmcmaa
open Go.RowKit Go.Shelf
attribute [local go_sem] Oper.semAt_some
theorem below_put9 {n₀ l : Nat} {W : World} {o : Obj} (o' : Obj) (hl : n₀ ≤ l) (h : W.heap[l]? = some o) : Below n₀ W (W.putObj l o') :=
  (Below.refl n₀ W).grown (grownBy_putObj' W l o') (by have := (Array.getElem?_eq_some_iff.1 h).1; omega) (fun k e => by cases e; omega)
/-- Rounds' deferred calls: none in each. -/
def mkD (r : Nat) : Deferred := { target := .collected r, args := #[] }
theorem leaves_many {F : Fence} {n : Nat} {P : Program} {fn : Func} {tmps : Array Value} {R : Ending → World → Prop} {B : Nat} : ∀ (rs : List Nat) (W : World), rs.Nodup → (∀ r ∈ rs, B ≤ r ∧ W.heap[r]? = some (.deferred (some []))) →
    (∀ W', Below B W W' → (∀ (k : Nat) (o : Obj), W.heap[k]? = some o → o.isCells = true → W'.heap[k]? = some o) → LeavesIn F n P fn tmps R [] .returning W') → LeavesInM F n P fn tmps R (rs.map mkD) .returning W
  | [], W, _, _, h => h W (Below.refl _ _) (fun _ _ h _ => h)
  | r :: rs, W, hn, hr, h => by
    obtain ⟨hB, hd⟩ := hr r (List.mem_cons_self ..)
    rw [List.nodup_cons] at hn
    refine ⟨by simp, .inl ⟨r, _, rfl, run_takeDeferred hd, ?_⟩⟩
    have hb := below_put9 (n₀ := B) (.deferred none) hB hd
    refine leaves_many rs _ hn.2 (fun x hx => ⟨(hr x (List.mem_cons_of_mem _ hx)).1, (World.putObj_heap_other (fun e => hn.1 (by rw [← e]; exact hx))).trans (hr x (List.mem_cons_of_mem _ hx)).2⟩) (fun W' hb' hk => h W' (hb.trans hb') (fun k o ho hc => ?_))
    refine hk k o ((World.putObj_heap_other (fun e => ?_)).trans ho) hc
    rw [e] at ho
    rw [hd] at ho
    injection ho with ho
    rw [← ho] at hc
    cases hc
section
variable {F : Fence} {n : Nat} {P : Program} {Q : Exit → Act → World → Prop} {a : Act} {w : World}
theorem stepR_scope {b : Frame} {k : List Item} {cs : List Frame} {c : Code} : step P (lone (b.atR a (.code (.scope c) :: k)) cs w) = .next (lone (b.atR a (.code c :: .inScope c :: k)) cs w) :=
  step_lone_go (by simp [stepG, stepG.exec, Frame.atR])
theorem stepR_inScope {b : Frame} {k : List Item} {cs : List Frame} {c : Code} : step P (lone (b.atR a (.inScope c :: k)) cs w) = .next (lone (b.atR a k) cs w) :=
  step_lone_go (by simp [stepG, stepG.exec, Frame.atR])
/-- A scope, inside a fence, through which the run goes without a goto. -/
theorem wpIn_scope_straight {c : Code} (h : c.wpIn F n P (Exit.noGoto Q) a w) : (Code.scope c).wpIn F n P Q a w := by
  intro b k cs hro hb hr
  have h0 : (lone (b.atR a (.code (.scope c) :: k)) cs w).fenced P F := fenced_calm hb hr rfl
  obtain ⟨e, a₁, w₁, hq, harr⟩ := h b (.inScope c :: k) cs hro hb hr
  cases e with
  | normal => exact ⟨.normal, a₁, w₁, hq, .head h0 stepR_scope (StepsIn.trans harr (.one (fenced_calm hb hr rfl) stepR_inScope))⟩
  | exit id =>
    have hx : exitTo id (.inScope c :: k) = exitTo id k := by simp [exitTo]
    exact ⟨.exit id, a₁, w₁, hq, fun k' hk => .head h0 stepR_scope (harr.1 k' (by rw [hx]; exact hk)),
      fun hr' hk => let ⟨k₁, h1, h2⟩ := harr.2 hr' (by rw [hx]; exact hk); ⟨k₁, h1, .head h0 stepR_scope h2⟩⟩
  | goto l => exact hq.elim
  | ret => exact ⟨_, a₁, w₁, hq, .of_steps (.one h0 stepR_scope) harr⟩
  | panic ch => exact ⟨_, a₁, w₁, hq, .of_steps (.one h0 stepR_scope) harr⟩
  | outgrown => exact ⟨_, a₁, w₁, hq, .of_steps (.one h0 stepR_scope) harr⟩
end
/-- Where first stands: which columns are taken, what has come, whose rounds are over. -/
structure FS (w W : World) (G N s : Nat) (T : List Nat) (rs : List Nat) : Prop where
  b0 : Boxed W w.heap.size 30 (.slice (some ⟨G, 0, none⟩) N N)
  b1 : ∃ P cc, Boxed W (w.heap.size + 1) 22 (.slice P T.length cc) ∧ OI (w.heap.size + 3) W (.slice P T.length cc) (T.map fun (k : Nat) => (k : Int))
  b2 : Boxed W (w.heap.size + 2) 40 (.int .i64 (s : Int))
  below : Below w.heap.size w W
  nd : rs.Nodup
  ds : ∀ r ∈ rs, w.heap.size + 3 ≤ r ∧ W.heap[r]? = some (.deferred (some []))
theorem FS.own {w W W' : World} {G N s B : Nat} {T rs : List Nat} {row : Option Nat} (h : FS w W G N s T rs) (hB : w.heap.size + 3 ≤ B) (hrs : ∀ r ∈ rs, r < B) (hg : W.grownBy W' row) (hr : ∀ r, row = some r → B ≤ r ∧ ∃ o : Obj, W.heap[r]? = some o ∧ o.isCells = false) : FS w W' G N s T rs := by
  have ne : ∀ k, k < B → some k ≠ row := fun k hk e => by have := (hr k e.symm).1; omega
  obtain ⟨P, cc, h1, h2⟩ := h.b1
  obtain ⟨v, g1, g2, g3⟩ := (holdsRow_own (w.heap.size + 3) (w.heap.size + 1) 22 3 1 (fun _ : Unit => (T.map fun (k : Nat) => (k : Int)).length) (fun _ => ints (T.map fun (k : Nat) => (k : Int))) (fun _ v => v = .slice P T.length cc)) () W W' row ⟨_, h1, h2.1, rfl⟩ hg (fun r e => (hr r e).2)
  subst g3
  exact ⟨h.b0.kept hg (ne _ (by omega)), ⟨P, cc, g1, g2, h2.2⟩, h.b2.kept hg (ne _ (by omega)), h.below.grown hg h.below.size (fun k e => by have := (hr k e).1; omega), h.nd,
    fun r hm => ⟨(h.ds r hm).1, (hg.block r (Array.getElem?_eq_some_iff.1 (h.ds r hm).2).1 (ne r (hrs r hm))).trans (h.ds r hm).2⟩⟩
theorem FS.alloc {w W : World} {G N s : Nat} {T rs : List Nat} (h : FS w W G N s T rs) (hz : w.heap.size + 3 ≤ W.heap.size) (o : Obj) : FS w (W.alloc o) G N s T rs :=
  h.own (B := W.heap.size) hz (fun r hr => (Array.getElem?_eq_some_iff.1 (h.ds r hr).2).1) (World.grownBy_alloc W o none) (fun r e => by cases e)
theorem cast_map (T : List Nat) (x : Nat) : ((T ++ [x]).map fun (k : Nat) => (k : Int)) = (T.map fun (k : Nat) => (k : Int)) ++ [(x : Int)] := by simp
theorem OI.keepC {B : Nat} {w w' : World} {v : Value} {xs : List Int} (h : OI B w v xs) (hk : ∀ (k : Nat) (o : Obj), w.heap[k]? = some o → o.isCells = true → w'.heap[k]? = some o) : OI B w' v xs := by
  refine ⟨own_stay h.1 fun k hkk => ?_, h.2⟩
  rcases h.1.2 with ⟨rfl, _⟩ | ⟨g, cap, cur, rfl, hg, hh, hr⟩
  · cases hkk
  · obtain rfl : g = k := by simpa [Value.ownBlock] using hkk
    exact (hk _ _ hh rfl).trans hh.symm
theorem OI.other {B g i : Nat} {w : World} {v : Value} {xs : List Int} (h : OI B w v xs) (u : Value) (hne : v.ownBlock ≠ some g) : OI B (w.setCell ⟨g, i, none⟩ u) v xs :=
  ⟨own_stay h.1 fun k hk => Below.heap_setCell _ _ _ _ fun e => hne (by rw [hk, e]), h.2⟩
/-- One number is appended to a row of the call's own. -/
theorem append_intC (wr : World) (B : Nat) (v : Value) (xs : List Int) (x : Int) (h : wr.ownsRow B 3 1 v xs.length (ints xs)) (hn : xs.length ≤ 1000000) (hB : B ≤ wr.heap.size) :
    ∃ v' w', (Builtin.append_ #[22, 22] 22 #[v, .slice (some ⟨wr.heap.size, 0, none⟩) 1 1]).run Try.prog (wr.alloc (.cells #[.int .i64 x] 3)) = .ok v' w' ∧ w'.ownsRow B 3 1 v' (xs.length + 1) (ints (xs ++ [x])) ∧ (wr.alloc (.cells #[.int .i64 x] 3)).grownBy w' v.ownBlock := by
  obtain ⟨i0, hi, hz0, hz1, hz2⟩ := info_parts infoI
  obtain ⟨v', w', hrun, ho, hgr, _, _⟩ := run_append_own_at (P := Try.prog) (wr.alloc (.cells #[.int .i64 x] 3)) B 22 22 3 i0 _ 1 8 Try.underlying22 hi hz0 hz1 hz2 rfl (by omega) v xs.length (ints xs) (h.alloc _)
    ⟨wr.heap.size, 0, none⟩ 1 1 [.int .i64 x] rfl (fun j u hu => by
      rw [add0, show (wr.alloc (.cells #[.int .i64 x] 3)).cell? ⟨wr.heap.size, j, none⟩ = #[.int .i64 x][j]? from cell_of_row _ _ _ _ 3 (0, 0) (heap_alloc_new wr _)]
      simpa using hu)
    (by intro u hu; simp at hu; subst hu; rfl) (by simp [maxLen]; omega) (by omega) (by simp; omega)
  exact ⟨v', w', hrun, by simpa [ints] using ho, hgr⟩
theorem FS.push {w W w1 : World} {G N s s' x cc g' cap' : Nat} {P : Option Addr} {T rs : List Nat} (h : FS w W G N s T rs) (hb1 : Boxed W (w.heap.size + 1) 22 (.slice P T.length cc)) (ho : OI (w.heap.size + 3) W (.slice P T.length cc) (T.map fun (k : Nat) => (k : Int)))
    (hx : x ≤ 1000000) (ho' : w1.ownsRow (w.heap.size + 3) 3 1 (.slice (some ⟨g', 0, none⟩) (T.length + 1) cap') (T.length + 1) (ints ((T.map fun (k : Nat) => (k : Int)) ++ [(x : Int)]))) {tmp : Obj} (hgr : (W.drew.alloc tmp).grownBy w1 (Value.slice P T.length cc).ownBlock) (hz : w.heap.size + 3 ≤ W.heap.size) :
    FS w ((w1.setCell ⟨w.heap.size + 1, 0, none⟩ (.slice (some ⟨g', 0, none⟩) (T.length + 1) cap')).setCell ⟨w.heap.size + 2, 0, none⟩ (.int .i64 (s' : Int))) G N s' (T ++ [x]) rs ∧
    KeepsOthers W ((w1.setCell ⟨w.heap.size + 1, 0, none⟩ (.slice (some ⟨g', 0, none⟩) (T.length + 1) cap')).setCell ⟨w.heap.size + 2, 0, none⟩ (.int .i64 (s' : Int))) ∧
    w1.cell? ⟨w.heap.size + 1, 0, none⟩ = some (.slice P T.length cc) ∧ w1.frozen? ⟨w.heap.size + 1, 0, none⟩ = false ∧ w1.cell? ⟨w.heap.size + 2, 0, none⟩ = some (.int .i64 (s : Int)) ∧ w1.frozen? ⟨w.heap.size + 2, 0, none⟩ = false := by
  have hod : W.drew.ownsRow (w.heap.size + 3) 3 1 (.slice P T.length cc) (T.map fun (k : Nat) => (k : Int)).length (ints (T.map fun (k : Nat) => (k : Int))) := ho.1
  obtain ⟨hv1, hv2, -, hk2, hb2⟩ := Boxed.appended (W := W.drew) (n₀ := w.heap.size) hb1 (by decide) (own_mono hod (show w.heap.size ≤ w.heap.size + 3 by omega)) (by show w.heap.size ≤ W.heap.size; omega) (by omega) (own_mono ho' (show w.heap.size ≤ w.heap.size + 3 by omega)) hgr
  have ne2 : some (w.heap.size + 2) ≠ (Value.slice P T.length cc).ownBlock := Boxed.not_row (W := W.drew) h.b2 (by decide) hod
  have ne0 : some w.heap.size ≠ (Value.slice P T.length cc).ownBlock := Boxed.not_row (W := W.drew) h.b0 (by decide) hod
  have x0 : Boxed w1 w.heap.size 30 (.slice (some ⟨G, 0, none⟩) N N) := (Boxed.alloc (W := W.drew) h.b0 tmp).kept hgr ne0
  have x2 : Boxed w1 (w.heap.size + 2) 40 (.int .i64 (s : Int)) := (Boxed.alloc (W := W.drew) h.b2 tmp).kept hgr ne2
  have hbl : Below w.heap.size w W.drew := h.below.drew
  have hlt := (ho'.lt g' (by simp [Value.ownBlock])).1
  refine ⟨⟨(x0.other (by omega) _).other (by omega) _, ⟨some ⟨g', 0, none⟩, cap', ?_, ?_, ?_⟩, (x2.other (by omega) _).set _, ?_, h.nd, fun r hr => ⟨(h.ds r hr).1, ?_⟩⟩, ?_, hv1.cell, hv1.frozen, x2.cell, x2.frozen⟩
  · rw [List.length_append, List.length_singleton]
    exact hv2.other (by omega) _
  · rw [cast_map]
    have := own_stay (w' := (w1.setCell ⟨w.heap.size + 1, 0, none⟩ (.slice (some ⟨g', 0, none⟩) (T.length + 1) cap')).setCell ⟨w.heap.size + 2, 0, none⟩ (.int .i64 (s' : Int))) ho' (fun j hj => by
      have hj2 := (ho'.lt j hj).1
      exact (Below.heap_setCell _ _ _ _ (by show j ≠ w.heap.size + 2; omega)).trans (Below.heap_setCell _ _ _ _ (by show j ≠ w.heap.size + 1; omega)))
    simpa using this
  · intro y hy
    rw [cast_map] at hy
    rcases List.mem_append.1 hy with g | g
    · exact ho.2 y g
    · rw [List.mem_singleton.1 g]; constructor <;> omega
  · exact (hbl.trans hb2).setCell (p := ⟨w.heap.size + 2, 0, none⟩) (by show w.heap.size ≤ w.heap.size + 2; omega) _
  · exact ((KeepsOthers.drew W).trans (hk2.trans (KeepsOthers.setCell _ _ _))).same _ _ (h.ds r hr).2 rfl
  · exact (KeepsOthers.drew W).trans (hk2.trans (KeepsOthers.setCell _ _ _))
set_option maxRecDepth 100000 in
set_option maxHeartbeats 8000000 in
theorem first_any (A : Option Addr) (n c G N : Nat) (M : List (List Int)) (w : World) (hM : Mat w A n M) (hok : okM M = true) (hN : N = 2 ^ wid M) (hG : Arr .i64 3 w G (restL M)) :
    Calls Try.prog 10 #[.slice (some ⟨G, 0, none⟩) N N, .slice A n c] w fun e w' => ∃ v, e = .returned v ∧ OI w.heap.size w' v ((fst1 M 0).map fun (k : Nat) => (k : Int)) ∧ Below w.heap.size w w' := by
  refine callsIn_wide (n := 9).1 ?_
  obtain ⟨k1, k2, k3⟩ := okM_spec hok
  unfold restL at hG
  obtain ⟨m, hm⟩ : ∃ m, m = wid M := ⟨_, rfl⟩
  rw [← hm] at k1 k2 k3 hN hG
  rw [← hN] at hG
  have HK := Lib.hid k3
  have HL := Lib.hid hM.1
  have HM := Lib.hid hM
  have HG := Lib.hid hG
  have HNp := Lib.hid hN
  have hGw := hG.lt
  have n2 : N ≤ 4096 := by
    rw [hN]
    have : 2 ^ m ≤ 2 ^ 12 := Nat.pow_le_pow_right (by omega) k1
    omega
  have n1 : 1 ≤ N := by rw [hN]; exact Nat.one_le_two_pow
  have hn12 : n ≤ 12 := by have := hM.1; omega
  have hnm : n ≤ m := by have := hM.1; omega
  clear k2 k3 hok hG hN hm hM
  refine callsIn_of_wp_marks Try.func10 rfl trivial ?_ rfl
  simp only [Try.ntmps10, List.size_toArray, List.length_cons, List.length_nil, Nat.reduceAdd, Nat.reduceSub, Array.replicate_succ, Array.replicate_zero, List.push_toArray, List.append_toArray, List.nil_append, List.cons_append]
  gi_wp2
  refine wpIn_scope_straight ?_
  gi_wp2
  refine wpIn_label ?_
  gi_wp2
  rw [show w.heap.size + 1 + 1 = w.heap.size + 2 from rfl]
  have hbw : Below w.heap.size w (((w.alloc (.cells #[.slice (some ⟨G, 0, none⟩) N N] 30)).alloc (.cells #[.slice none 0 0] 22)).alloc (.cells #[.int .i64 0] 40)) := (((Below.refl _ w).alloc (Nat.le_refl _) _).alloc (by simp) _).alloc (by simp; omega) _
  have hfs0 : FS w (((w.alloc (.cells #[.slice (some ⟨G, 0, none⟩) N N] 30)).alloc (.cells #[.slice none 0 0] 22)).alloc (.cells #[.int .i64 0] 40)) G N 0 [] [] := by
    refine ⟨((Boxed.new w 30 (.slice (some ⟨G, 0, none⟩) N N)).alloc _).alloc _, ⟨none, 0, ?_, OI.nil _ _⟩, ?_, hbw, List.nodup_nil, fun r h => by cases h⟩
    · have := (Boxed.new (w.alloc (.cells #[.slice (some ⟨G, 0, none⟩) N N] 30)) 22 (.slice none 0 0)).alloc (.cells #[.int .i64 0] 40)
      rwa [World.size_alloc] at this
    · have := Boxed.new ((w.alloc (.cells #[.slice (some ⟨G, 0, none⟩) N N] 30)).alloc (.cells #[.slice none 0 0] 22)) 40 (.int .i64 0)
      rwa [World.size_alloc, World.size_alloc] at this
  have HF0 := Lib.hid hfs0
  clear hbw hfs0
  refine wpIn_loop (fun a W => ∃ (k s : Nat) (T rs : List Nat) (u7 u13 u14 u15 u16 u17 u18 u19 u35 : Value), a = { tmps := #[.slice (some ⟨G, 0, none⟩) N N, .slice A n c, .pointer (some ⟨w.heap.size, 0, none⟩), undef, .pointer (some ⟨w.heap.size + 1, 0, none⟩), .pointer (some ⟨w.heap.size + 2, 0, none⟩), undef, u7, undef, undef, .slice A n c, .int .i64 (n : Int), .int .i64 (k : Int), u13, u14, u15, u16, u17, u18, u19, undef, undef, undef, undef, undef, undef, undef, undef, undef, undef, undef, undef, undef, undef, undef, u35, undef], defers := rs.map mkD } ∧ k ≤ n ∧ s < N ∧ pcN s = k ∧ T.length = k ∧ T ++ fst1 (M.drop k) s = fst1 M 0 ∧ Room (M.drop k) m s ∧ FS w W G N s T rs) (fun a _ => n - (intOf (a.tmps.getD 12 undef)).toNat) ?st ?rd
  case st =>
    exact ⟨0, 0, [], [], undef, undef, undef, undef, undef, undef, undef, undef, undef, rfl, Nat.zero_le _, by omega, by decide +kernel, rfl, rfl, ⟨fun r hr => (HK.out r hr).1, by
      have e : (free m 0).length = m := by unfold free; rw [List.filter_eq_self.2 (by simp)]; simp
      rw [e, List.drop_zero, HL.out]; exact hnm⟩, HF0.out⟩
  case rd =>
    rintro a W ⟨k, s, T, rs, u7, u13, u14, u15, u16, u17, u18, u19, u35, rfl, hk, hs, hpc, hTl, hTf, hroom, hfs⟩
    have HF := Lib.hid hfs
    have HR := Lib.hid hroom
    have HT := Lib.hid hTf
    have HTL := Lib.hid hTl
    have HPC := Lib.hid hpc
    clear hfs hroom hTf hTl hpc HF0
    have hWz : w.heap.size + 3 ≤ W.heap.size := by have := HF.out.b2.lt; omega
    by_cases hlt : k < n
    · have hltz : (k : Int) < (n : Int) := by omega
      obtain ⟨ad, r, B, d, rfl, hr, hcx, hnr⟩ := (HM.out.keep (Keeps.of_below HF.out.below)).at_ hlt
      obtain ⟨rl, rb⟩ := HK.out r (List.mem_of_getElem? hr)
      rw [rl] at hcx hnr
      have i0 : (0 : Int) ≤ (k : Int) := by omega
      have hAr := HG.out.below HF.out.below hGw
      have hdrop : M.drop k = r :: M.drop (k + 1) := by
        obtain ⟨h1, rfl⟩ := List.getElem?_eq_some_iff.1 hr
        exact List.drop_eq_getElem_cons h1
      have hR := HR.out
      rw [hdrop] at hR
      obtain ⟨x0, hx0, e0, hfirst, hfst⟩ := fst1_cons hR
      have hval : ∀ x, x ∈ free m s → valK r (fun k => restV M (s ||| 2 ^ k)) x = cst r x + restR (M.drop (k + 1)) (s ||| 2 ^ x) := fun x hx => by
        obtain ⟨f1, f2⟩ := mem_free.1 hx
        show cst r x + restR (M.drop (pcN (s ||| 2 ^ x))) (s ||| 2 ^ x) = _
        rw [pcN_or f2 (by omega), HPC.out]
      have hrest : restV M s = restR (r :: M.drop (k + 1)) s := by unfold restV; rw [HPC.out, hdrop]
      have HO1 := Lib.hid (offers_any (.slice (some ⟨G, 0, none⟩) N N) (.slice B m d) (s : Int) ⟨⟨_, _, _, rfl⟩, ⟨_, _, _, rfl⟩⟩ W)
      have hbO : Below W.heap.size W (((W.alloc (.cells #[.slice (some ⟨G, 0, none⟩) N N] 30)).alloc (.cells #[.slice B m d] 22)).alloc (.cells #[.int .i64 (s : Int)] 40)) := (((Below.refl _ W).alloc (Nat.le_refl _) _).alloc (by simp) _).alloc (by simp; omega) _
      have hz4 : (((W.alloc (.cells #[.slice (some ⟨G, 0, none⟩) N N] 30)).alloc (.cells #[.slice B m d] 22)).alloc (.cells #[.int .i64 (s : Int)] 40)).heap.size = W.heap.size + 3 := by simp
      have hO : Off (((W.alloc (.cells #[.slice (some ⟨G, 0, none⟩) N N] 30)).alloc (.cells #[.slice B m d] 22)).alloc (.cells #[.int .i64 (s : Int)] 40)) (W.heap.size + 1) (W.heap.size + 2) W.heap.size G N m s r (fun k => restV M (s ||| 2 ^ k)) := by
        have kO := Keeps.of_below hbO
        obtain ⟨x3, x1, x2⟩ := box3 W 30 22 40 (.slice (some ⟨G, 0, none⟩) N N) (.slice B m d) (.int .i64 (s : Int))
        refine ⟨⟨B, d, x1, hnr.keep kO⟩, x2, x3, fun k hk => ?_⟩
        obtain ⟨o1, o2⟩ := or_gt hk (by rw [← HNp.out]; exact hs)
        rw [← HNp.out] at o2
        have hv := restV_in M (s ||| 2 ^ k) (fun r hr => (HK.out r hr).2) (by rw [HL.out]; omega)
        exact ⟨o2, kO _ _ (hAr.cell (fillL_at M o2 (by omega))), hv⟩
      have hR0 := hAr.cell (fillL_at M (t := 0) hs (Nat.zero_le _))
      have hfs4 : FS w (((W.alloc (.cells #[.slice (some ⟨G, 0, none⟩) N N] 30)).alloc (.cells #[.slice B m d] 22)).alloc (.cells #[.int .i64 (s : Int)] 40)) G N s T rs := ((HF.out.alloc hWz _).alloc (by simp; omega) _).alloc (by simp; omega) _
      have hrs4 : ∀ r ∈ rs, r < (((W.alloc (.cells #[.slice (some ⟨G, 0, none⟩) N N] 30)).alloc (.cells #[.slice B m d] 22)).alloc (.cells #[.int .i64 (s : Int)] 40)).heap.size := fun r hr => by have := (Array.getElem?_eq_some_iff.1 (HF.out.ds r hr).2).1; omega
      obtain ⟨w4, hw4⟩ : ∃ w4, w4 = ((W.alloc (.cells #[.slice (some ⟨G, 0, none⟩) N N] 30)).alloc (.cells #[.slice B m d] 22)).alloc (.cells #[.int .i64 (s : Int)] 40) := ⟨_, rfl⟩
      have hR4 := Keeps.of_below hbO _ _ hR0
      rw [← hw4] at HO1 hbO hO hz4 hfs4 hrs4 hR4
      have HO := Lib.hid hO
      have HFS4 := Lib.hid hfs4
      have HR4' := Lib.hid (fun W' (hb : Below w.heap.size w W') => (HG.out.below hb hGw).cell (fillL_at M (t := 0) hs (Nat.zero_le _)))
      obtain ⟨V, hV⟩ : ∃ V : Nat → Int, V = fun k => restV M (s ||| 2 ^ k) := ⟨_, rfl⟩
      rw [← hV] at HO hval
      obtain ⟨R0, hR0e⟩ : ∃ R0, R0 = restV M s := ⟨_, rfl⟩
      rw [← hR0e] at HR4' hrest
      have HVAL := Lib.hid hval
      have HRST := Lib.hid hrest
      have HFI := Lib.hid hfirst
      have HE0 := Lib.hid e0
      have HFST := Lib.hid hfst
      have HDROP := Lib.hid hdrop
      have HRB := Lib.hid rb
      have HRR := Lib.hid hR
      have q0 := HF.out.b0.cell
      have q2 := HF.out.b2.cell
      clear hr rb rl hAr hdrop hR e0 hfirst hfst hval hrest hO hfs4 hR0 hR4 hw4 hV hR0e hnr
      gi_wp2_with (refine ⟨trivial, ?_⟩; gi_at_call 20; refine (callsIn_wide.2 HO1.out).mono ?_; rintro e w' ⟨rfl, rfl⟩)
      refine wpIn_rangeFunc_ownG rfl (by omega) (gf := 23) (lb := #[.pointer (some ⟨W.heap.size + 1, 0, none⟩), .pointer (some ⟨W.heap.size + 2, 0, none⟩), .pointer (some ⟨W.heap.size, 0, none⟩)]) rfl trivial (enters_of Try.func23 (by kernel_rfl) rfl)
        (offers_stops 8 (by omega) _ _ _ G N m s r V k1 (by omega) HRB.out w' HO.out) belowK_t (belowK_b (Nat.le_refl _)) (Below.refl _ _) (fun _ => rfl)
        (fun pre W' => (∀ y ∈ pre, valK r V y.1 ≠ R0) ∧ FS w W' G N s T rs)
        (fun c pre W' => c = .exit 1 ∧ ∃ pre' x, pre = pre' ++ [x] ∧ (∀ y ∈ pre', valK r V y.1 ≠ R0) ∧ valK r V x.1 = R0 ∧ FS w W' G N (s ||| 2 ^ x.1) (T ++ [x.1]) rs)
        (fun pre X Y row ⟨h1, h2⟩ hg hr => ⟨h1, h2.own (by omega) hrs4 hg hr⟩)
        (fun c pre X Y row ⟨h0, pre', x, h1, h2, h3, h4⟩ hg hr => ⟨h0, pre', x, h1, h2, h3, h4.own (by omega) hrs4 hg hr⟩)
        ⟨(fun y hy => by cases hy), HFS4.out⟩
        (fun x => { tmps := #[.slice (some ⟨G, 0, none⟩) N N, .slice (some ad) n c, .pointer (some ⟨w.heap.size, 0, none⟩), undef, .pointer (some ⟨w.heap.size + 1, 0, none⟩), .pointer (some ⟨w.heap.size + 2, 0, none⟩), undef, .slice B m d, .int .i64 (x.1 : Int), .int .i64 (valK r V x.1), .slice (some ad) n c, .int .i64 (n : Int), .int .i64 (k : Int), .bool true, .pointer (some (ad.add k)), .slice B m d, .slice (some ⟨G, 0, none⟩) N N, .slice B m d, .int .i64 (s : Int), .func (.func 23) #[] #[.pointer (some ⟨W.heap.size + 1, 0, none⟩), .pointer (some ⟨W.heap.size + 2, 0, none⟩), .pointer (some ⟨W.heap.size, 0, none⟩)], .int .i64 (x.1 : Int), .int .i64 (valK r V x.1), undef, undef, undef, undef, undef, undef, undef, undef, undef, undef, undef, undef, undef, u35, undef], defers := [] }) ?assign ?body ?done ?stop
      case assign =>
        intro l x W' K hK
        gi_wp2
        exact hK
      case done =>
        rintro D ys W' hD hys ⟨h1, h2⟩ hK
        exfalso
        have hmem : x0 ∈ ys.map (·.1) := by rw [hys]; exact hx0
        obtain ⟨y, hy, rfl⟩ := List.mem_map.1 hmem
        exact h1 y hy (by rw [HVAL.out _ hx0, HE0.out, HRST.out])
      case stop =>
        rintro D c pre W' hD ⟨kk, hsp⟩ ⟨rfl, pre', x, rfl, h1, h2, h3⟩ hK
        have hxf : x.1 ∈ free kk s := by rw [← hsp]; simp
        have hxx : x.1 = x0 := by
          rcases Nat.lt_trichotomy x.1 x0 with hl | hl | hl
          · exact absurd (by rw [← HVAL.out _ x.2, h2, HRST.out]) (HFI.out _ x.2 hl)
          · exact hl
          · have hm0 : x0 ∈ free kk s := mem_free.2 ⟨by have := (mem_free.1 hxf).1; omega, (mem_free.1 hx0).2⟩
            rw [← hsp, List.map_append, List.mem_append] at hm0
            rcases hm0 with hm0 | hm0
            · obtain ⟨y, hy, e⟩ := List.mem_map.1 hm0
              exact absurd (by rw [e, HVAL.out _ hx0, HE0.out, HRST.out]) (h1 y hy)
            · simp only [List.map_cons, List.map_nil, List.mem_singleton] at hm0
              omega
        rw [hxx] at h3
        obtain ⟨f1, f2⟩ := mem_free.1 hx0
        have hnew : FS w W' G N (s ||| 2 ^ x0) (T ++ [x0]) (D :: rs) := ⟨h3.b0, h3.b1, h3.b2, h3.below, List.nodup_cons.2 ⟨fun hm => by have := hrs4 D hm; omega, h3.nd⟩, fun r hr => by
          rcases List.mem_cons.1 hr with rfl | hr
          · exact ⟨by omega, hK⟩
          · exact h3.ds r hr⟩
        have HNEW := Lib.hid hnew
        have HXX := Lib.hid (show fst1 (r :: M.drop (k + 1)) s = x0 :: fst1 (M.drop (k + 1)) (s ||| 2 ^ x0) from HFST.out)
        have hs' : s ||| 2 ^ x0 < N := by
          have := (or_gt hx0 (by rw [← HNp.out]; exact hs)).2
          rw [← HNp.out] at this
          exact this
        clear hsp hxf hxx h1 h2 h3 hnew q0 q2
        gi_wp2
        exact ⟨⟨k + 1, s ||| 2 ^ x0, T ++ [x0], D :: rs, _, _, _, _, _, _, _, _, _, rfl, by omega, hs', by rw [pcN_or f2 (by omega), HPC.out], by rw [List.length_append, HTL.out]; rfl,
          by rw [← HT.out, HDROP.out, HXX.out, List.append_assoc]; rfl, HRR.out.step hx0, HNEW.out⟩, by simp [intOf]; omega⟩
      case body =>
        rintro l pre x W' ⟨h1, h2⟩ hlen
        have q0 := h2.b0.cell
        have q2 := h2.b2.cell
        have hR0 : W'.cell? ⟨G, s, none⟩ = some (.int .i64 R0) := HR4'.out _ h2.below
        have sN : (s : Int) < (N : Int) := by omega
        have s0 : (0 : Int) ≤ (s : Int) := by omega
        have H2 := Lib.hid h2
        have H1 := Lib.hid h1
        clear h1 h2
        by_cases hv : valK r V x.1 = R0
        · have hb : (valK r V x.1 == R0) = true := by simp [hv]
          have HVE := Lib.hid hv
          obtain ⟨P, cc, hb1, ho⟩ := H2.out.b1
          have hWz' : w.heap.size + 3 ≤ W'.heap.size := by have := H2.out.b2.lt; omega
          obtain ⟨v', w1, hrun, ho', hgr⟩ := append_intC W'.drew (w.heap.size + 3) (.slice P T.length cc) (T.map fun (k : Nat) => (k : Int)) (x.1 : Int) ho.1 (by rw [List.length_map, HTL.out]; omega) hWz'
          rw [List.length_map] at ho'
          obtain ⟨g', cap', e'⟩ := ownsRow_succ ho'
          subst e'
          obtain ⟨p1, p2, p3, p4, p5, p6⟩ := H2.out.push (s' := s ||| 2 ^ x.1) hb1 ho (x := x.1) (by have := (mem_free.1 x.2).1; omega) ho' hgr hWz'
          have HP1 := Lib.hid p1
          have HP2 := Lib.hid p2
          have HCC : Hid (W'.drew.cell? ⟨w.heap.size + 1, 0, none⟩ = some (.slice P T.length cc) ∧ W'.drew.cell? ⟨w.heap.size + 2, 0, none⟩ = some (.int .i64 (s : Int))) := Lib.hid ⟨hb1.cell, q2⟩
          have kA := Keeps.of_below ((Below.refl _ W'.drew).alloc (Nat.le_refl _) (.cells #[.int .i64 (x.1 : Int)] 3))
          have HS2 : Hid ((W'.drew.alloc (.cells #[.int .i64 (x.1 : Int)] 3)).cell? ⟨w.heap.size + 1, 0, none⟩ = some (.slice P T.length cc) ∧ (W'.drew.alloc (.cells #[.int .i64 (x.1 : Int)] 3)).cell? ⟨w.heap.size + 2, 0, none⟩ = some (.int .i64 (s : Int))) := Lib.hid ⟨kA _ _ HCC.out.1, kA _ _ HCC.out.2⟩
          have HS3 : Hid (w1.cell? ⟨w.heap.size + 1, 0, none⟩ = some (.slice P T.length cc) ∧ w1.cell? ⟨w.heap.size + 2, 0, none⟩ = some (.int .i64 (s : Int))) := Lib.hid ⟨p3, p5⟩
          have HWI := Lib.hid (fun W => with_any s x.1 W (by omega) (by have := (mem_free.1 x.2).1; omega))
          have Hrun := Lib.hid hrun
          clear hv hrun ho ho' hgr p1 p2 kA hb1
          gi_wp2
          refine region_N (S := fun W' => W'.cell? ⟨w.heap.size + 1, 0, none⟩ = some (.slice P T.length cc) ∧ W'.cell? ⟨w.heap.size + 2, 0, none⟩ = some (.int .i64 (s : Int))) (kill := [7, 8]) (by kernel_rfl) HCC.out (fun hHeld => ?_)
          refine anyN_take (i := 0) (v := ?vb0) (by kernel_rfl) rfl (by kernel_rfl) (by kernel_rfl) (by kernel_rfl) (by kernel_rfl) (by kernel_rfl) (fun _ _ _ h => h) (fun _ => rfl) (Or.inl ⟨by rfl, ?yb0⟩) hHeld ?rb0
          case yb0 => (intro W hW; obtain ⟨hA, hB⟩ := hW; go_simp; first | done | with_reducible rfl)
          try simp only [List.getElem_toArray, List.getElem_cons_zero, Act.put, List.setIfInBounds_toArray, List.set_cons_zero, List.set_cons_succ]
          refine anyN_take (i := 1) (v := ?vb1) (by kernel_rfl) rfl (by kernel_rfl) (by kernel_rfl) (by kernel_rfl) (by kernel_rfl) (by kernel_rfl) (fun _ _ _ h => h) (fun _ => rfl) (Or.inl ⟨by rfl, ?yb1⟩) hHeld ?rb1
          case yb1 => (intro W hW; obtain ⟨hA, hB⟩ := hW; go_simp; first | done | with_reducible rfl)
          try simp only [List.getElem_toArray, List.getElem_cons_succ, List.getElem_cons_zero, Act.put, List.setIfInBounds_toArray, List.set_cons_zero, List.set_cons_succ]
          refine anyN_take (i := 4) (v := ?vb4) (by kernel_rfl) rfl (by kernel_rfl) (by kernel_rfl) (by kernel_rfl) (by kernel_rfl) (by kernel_rfl) (fun _ _ _ h => h) (fun _ => rfl) (Or.inl ⟨by rfl, ?yb4⟩) hHeld ?rb4
          case yb4 => (intro W hW; obtain ⟨hA, hB⟩ := hW; go_simp; first | done | with_reducible rfl)
          try simp only [List.getElem_toArray, List.getElem_cons_succ, List.getElem_cons_zero, Act.put, List.setIfInBounds_toArray, List.set_cons_zero, List.set_cons_succ]
          refine anyN_take (i := 5) (v := ?vb5) (by kernel_rfl) rfl (by kernel_rfl) (by kernel_rfl) (by kernel_rfl) (by kernel_rfl) (by kernel_rfl) (fun _ _ _ h => h) (fun _ => rfl) (Or.inl ⟨by rfl, ?yb5⟩) hHeld ?rb5
          case yb5 => (intro W hW; obtain ⟨hA, hB⟩ := hW; go_simp; first | done | with_reducible rfl)
          try simp only [List.getElem_toArray, List.getElem_cons_succ, List.getElem_cons_zero, Act.put, List.setIfInBounds_toArray, List.set_cons_zero, List.set_cons_succ]
          refine anyN_ready (rs := [2]) (by kernel_rfl) (by simp) ?_
          refine AllN.cons (by kernel_rfl) rfl (by rfl) (fun K hK => ?_) (AllN.nil)
          refine ⟨fun _ _ => trivial, ?_⟩
          go_simp
          refine hK.out _ _ (fun _ => HS2.out) ?_
          clear hK K
          try simp only [List.getElem_toArray, List.getElem_cons_succ, List.getElem_cons_zero, Act.put, List.setIfInBounds_toArray, List.set_cons_zero, List.set_cons_succ]
          refine anyN_ready (rs := [3]) (by kernel_rfl) (by simp) ?_
          refine AllN.cons (by kernel_rfl) rfl (by rfl) (fun K hK => ?_) (AllN.nil)
          refine ⟨fun _ _ => trivial, ?_⟩
          refine uponI_append (.tmp 28) (.tmp 30) 22 rfl _ _ _ rfl rfl Hrun.out ?_
          refine hK.out _ _ (fun _ => HS3.out) ?_
          clear hK K
          try simp only [List.getElem_toArray, List.getElem_cons_succ, List.getElem_cons_zero, Act.put, List.setIfInBounds_toArray, List.set_cons_zero, List.set_cons_succ]
          refine anyN_ready (rs := [6]) (by kernel_rfl) (by simp) ?_
          refine AllN.cons (by kernel_rfl) rfl (by rfl) (fun K hK => ?_) (AllN.nil)
          refine ⟨fun _ _ => trivial, ?_⟩
          go_simp
          refine (CallsIn.inRound l (callsIn_wide.2 (HWI.out w1))).mono ?_
          rintro e w' ⟨rfl, rfl⟩
          refine hK.out _ _ (fun _ => HS3.out) ?_
          clear hK K
          try simp only [List.getElem_toArray, List.getElem_cons_succ, List.getElem_cons_zero, Act.put, List.setIfInBounds_toArray, List.set_cons_zero, List.set_cons_succ]
          refine anyN_ready (rs := [7]) (by kernel_rfl) (by simp) ?_
          refine AllN.cons (by kernel_rfl) rfl (by rfl) (fun K hK => ?_) (AllN.nil)
          refine ⟨fun _ _ => trivial, ?_⟩
          go_simp
          refine hK.out _ _ (fun h => absurd (by decide) h) ?_
          clear hK K
          try simp only [List.getElem_toArray, List.getElem_cons_succ, List.getElem_cons_zero, Act.put, List.setIfInBounds_toArray, List.set_cons_zero, List.set_cons_succ]
          refine anyN_ready (rs := [8]) (by kernel_rfl) (by simp) ?_
          refine AllN.cons (by kernel_rfl) rfl (by rfl) (fun K hK => ?_) (AllN.nil)
          refine ⟨fun _ _ => trivial, ?_⟩
          go_simp
          refine hK.out _ _ (fun h => absurd (by decide) h) ?_
          clear hK K
          try simp only [List.getElem_toArray, List.getElem_cons_succ, List.getElem_cons_zero, Act.put, List.setIfInBounds_toArray, List.set_cons_zero, List.set_cons_succ]
          refine anyN_done (by kernel_rfl) ?_ _
          gi_wp2
          exact ⟨HP2.out.from _, rfl, pre, x, rfl, H1.out, HVE.out, HP1.out⟩
        · have hb : (valK r V x.1 == R0) = false := by simpa using hv
          have hv' : ∀ y ∈ pre ++ [x], valK r V y.1 ≠ R0 := fun y hy => by
            rcases List.mem_append.1 hy with h | h
            · exact H1.out y h
            · rw [List.mem_singleton.1 h]; exact hv
          have HV' := Lib.hid hv'
          clear hv hv'
          gi_wp2
          exact ⟨KeepsFrom.refl _ _, Below.refl _ _, HV'.out, H2.out⟩
    · obtain rfl : k = n := by omega
      have hnlt : decide ((k : Int) < (k : Int)) = false := by simp
      obtain ⟨P, cc, hb1, ho⟩ := HF.out.b1
      have hc1 := hb1.cell
      have hfz := hb1.frozen
      have hT2 : T = fst1 M 0 := by
        have := HT.out
        rw [List.drop_eq_nil_of_le (Nat.le_of_eq HL.out)] at this
        simpa [fst1] using this
      have HT2 := Lib.hid hT2
      have HB1 := Lib.hid hb1
      have HOI := Lib.hid ho
      clear hT2 hb1 ho
      gi_wp2
      rw [Exit.noGoto_ret]
      have HX := Lib.hid (HB1.out.set (.slice P T.length cc))
      have HOX := Lib.hid (HOI.out.other (g := w.heap.size + 1) (i := 0) (.slice P T.length cc) (fun e => Boxed.not_row HB1.out (by decide) HOI.out.1 e.symm))
      have HBX := Lib.hid (HF.out.below.setCell (p := ⟨w.heap.size + 1, 0, none⟩) (by show w.heap.size ≤ w.heap.size + 1; omega) (.slice P T.length cc))
      refine leaves_many (B := w.heap.size) rs _ HF.out.nd (fun r hr => ⟨by have := (HF.out.ds r hr).1; omega, (KeepsOthers.setCell _ _ _).same _ _ (HF.out.ds r hr).2 rfl⟩) (fun W' hb hk => ?_)
      have hc2 := Boxed.cell (W := W') (hk _ _ HX.out rfl)
      refine ⟨_, ?_, .slice P T.length cc, rfl, ?_, HBX.out.trans hb⟩
      · simp [results, go_sem, hc2]
      · rw [← HT2.out]
        exact (OI.keepC HOX.out hk).mono (by omega)
end Go.Proofs.Ytnjalnnbdmmcmaa
