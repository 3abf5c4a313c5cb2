/- Package hash: a table's entries, sorted by their keys. -/
import Derived.Deep.Onto
import Derived.IntWalk
import Derived.Test.YtioddfodajinlaaSortK
import Derived.Test.YtioddfodajinlaaHshd
import Derived.Test.YtioddfodajinlaaHsha
import Derived.Test.YtioddfodajinlaaRegP
namespace Go.Proofs.Ytioddfodajinlaa
open Go.RowKit Go.Shelf Go.Sort Go.Lib
attribute [local go_sem] Oper.semAt_some
set_option maxRecDepth 100000 in
set_option maxHeartbeats 1000000 in
theorem tcmp_grow (k s n m k' s' n' m' : Value) (x y : Cel) (w : World) (hx : CR w k s n m x) (hy : CR w k' s' n' m' y) (h1 : x.key.length ≤ 1000000) (h2 : y.key.length ≤ 1000000) :
    Calls Try.prog 55 #[.agg #[k, .int .i64 x.cnt, s, n, m], .agg #[k', .int .i64 y.cnt, s', n', m']] w fun e w' => e = .returned (.int .i64 (cmpL x.key y.key)) ∧ ∃ os, w' = grow w os := by
  obtain ⟨⟨Pk, ck, rfl, hk⟩, ⟨Ps, cs, rfl, hs⟩, ⟨Pn, cn, rfl, hn⟩, ⟨Pm, cm, rfl, hm⟩⟩ := hx
  obtain ⟨⟨Qk, dk, rfl, gk⟩, ⟨Qs, ds, rfl, gs⟩, ⟨Qn, dn, rfl, gn⟩, ⟨Qm, dm, rfl, gm⟩⟩ := hy
  have R1 : Hid (RI w (.slice Pk x.key.length ck) x.key) := Lib.hid ⟨_, _, rfl, hk⟩
  have R2 : Hid (RI w (.slice Qk y.key.length dk) y.key) := Lib.hid ⟨_, _, rfl, gk⟩
  have L1 := Lib.hid h1
  have L2 := Lib.hid h2
  clear hk hs hn hm gk gs gn gm h1 h2
  generalize hlk : x.key.length = lk at R1 L1 ⊢
  generalize hlq : y.key.length = lq at R2 L2 ⊢
  have hb : RowKit.Below w.heap.size w ((w.alloc (.cells #[.slice Pk lk ck, .int .i64 x.cnt, .slice Ps x.sum.length cs, .slice Pn x.mn.length cn, .slice Pm x.mx.length cm] 67)).alloc (.cells #[.slice Qk lq dk, .int .i64 y.cnt, .slice Qs y.sum.length ds, .slice Qn y.mn.length dn, .slice Qm y.mx.length dm] 67)) := ((RowKit.Below.refl _ w).alloc (Nat.le_refl _) _).alloc (by simp) _
  have HB := Lib.hid hb
  have E1 := Lib.hid hlk
  have E2 := Lib.hid hlq
  clear hb hlk hlq
  go_enter Try.func55, Try.ntmps55
  go_wp2_with fail
  refine (less_any _ _ x.key y.key _ (R1.out.keep (Keeps.of_below HB.out)) (R2.out.keep (Keeps.of_below HB.out)) (by rw [E1.out]; exact L1.out) (by rw [E2.out]; exact L2.out)).mono ?_
  rintro e w' ⟨rfl, rfl⟩
  go_wp2
  go_ret
  exact ⟨rfl, _, by rw [alloc_eq_grow, alloc_eq_grow, grow_grow]⟩
abbrev QO (B : Nat) (w : World) : V5 × Cel → Prop := fun p => OwnC B w p.1 p.2 ∧ p.2.key.length ≤ 1000000
def cfK {Q : V5 × Cel → Prop} (p q : SP Q) : Int := cmpL p.1.2.key q.1.2.key
theorem swoK {Q : V5 × Cel → Prop} : SWO (ltOf (cfK (Q := Q))) where
  irrefl x := by simp [ltOf, cfK, cmpL_self]
  trans x y z h1 h2 := by
    have a := of_decide_eq_true h1
    have b := of_decide_eq_true h2
    refine decide_eq_true ?_
    unfold cfK at *
    have c := cmpL_trans (Int.le_of_lt a) (Int.le_of_lt b)
    rcases Int.lt_or_eq_of_le c with h | h
    · exact h
    · rw [← cmpL_zero.1 h] at b
      have := cmpL_anti x.1.2.key y.1.2.key
      omega
  ntrans x y z h1 h2 := by
    have a := of_decide_eq_false h1
    have b := of_decide_eq_false h2
    refine decide_eq_false ?_
    unfold cfK at *
    have e1 := cmpL_anti x.1.2.key y.1.2.key
    have e2 := cmpL_anti y.1.2.key z.1.2.key
    have e3 := cmpL_anti x.1.2.key z.1.2.key
    have := cmpL_trans (s := z.1.2.key) (t := y.1.2.key) (u := x.1.2.key) (by omega) (by omega)
    omega
/-- A row of distinct keys, sorted, is its own group-by. -/
theorem sorted_grp {l J : List Cel} (hp : l.Perm J) (ha : J.Pairwise fun x y => x.key ≠ y.key) (hs : l.Pairwise fun x y => cmpL x.key y.key ≤ 0) : l = grpR J := by
  have ha2 : l.Pairwise fun x y => x.key ≠ y.key := (hp.symm.pairwise_iff (fun {a b} h e => h e.symm)).1 ha
  have hr : RiseC l := by
    refine (hs.and ha2).imp ?_
    rintro a b ⟨h1, h2⟩
    rcases Int.lt_or_eq_of_le h1 with h | h
    · exact h
    · exact absurd (cmpL_zero.1 h) h2
  rw [← grpR_perm hp]
  exact (grp_same l [] (by simpa using hr)).symm
theorem mk_own {B : Nat} {w : World} : ∀ {vs : List V5} {l : List Cel}, OwnL B w vs l → (∀ x ∈ l, x.key.length ≤ 1000000) → ∃ D : List (V5 × Cel), D.map (·.1) = vs ∧ D.map (·.2) = l ∧ ∀ p ∈ D, QO B w p
  | [], [], _, _ => ⟨[], rfl, rfl, fun p hp => by cases hp⟩
  | [], _ :: _, h, _ => by have := h.1; simp at this
  | _ :: _, [], h, _ => by have := h.1; simp at this
  | v :: vs, x :: l, h, hk => by
    obtain ⟨D, h1, h2, h3⟩ := mk_own (vs := vs) (l := l) ⟨by have := h.1; simpa using this, fun i u y hu hy => h.2 (i + 1) u y (by simpa using hu) (by simpa using hy)⟩ fun y hy => hk y (List.mem_cons_of_mem _ hy)
    refine ⟨(v, x) :: D, by simp [h1], by simp [h2], fun p hp => ?_⟩
    rcases List.mem_cons.1 hp with rfl | hp
    · exact ⟨h.2 0 v x rfl rfl, hk x (by simp)⟩
    · exact h3 p hp
theorem OI.tch {B g : Nat} {w w' : World} {v : Value} {xs : List Int} {cur : Array Value} {T : TypeId} (h : OI B w v xs) (ht : Tch (fun b => b = g) w w') (hg : w.heap[g]? = some (.cells cur T (0, 0))) (hT : T ≠ 3) : OI B w' v xs := by
  refine ⟨own_stay h.1 fun k hk => ht.block k (h.1.lt k hk).2 fun e => ?_, h.2⟩
  subst e
  rcases h.1.2 with ⟨rfl, _⟩ | ⟨g', cap, cur', rfl, _, hh, _⟩
  · simp [Value.ownBlock] at hk
  · simp only [Value.ownBlock, Option.some.injEq] at hk
    subst hk
    rw [hh] at hg
    injection hg with hg
    injection hg with _ h2
    exact hT h2.symm
set_option maxRecDepth 100000 in
set_option maxHeartbeats 1000000 in
theorem ksort_any (B B1 g c N : Nat) (vs : List V5) (J : List Cel) (w : World) (ho : w.ownsRow B1 67 5 (.slice (some ⟨g, 0, none⟩) N c) N (flatV vs)) (hL : OwnL B w vs J) (hkl : ∀ x ∈ J, x.key.length ≤ 1000000) (hN : vs.length = N) (hn1 : 1 ≤ N) (hn : N ≤ 1000000) (hap : J.Pairwise fun x y => x.key ≠ y.key) :
    Calls Try.prog 54 #[.slice (some ⟨g, 0, none⟩) N c, .func (.func 55) #[] #[]] w fun e w' => e = .returned (.tuple #[]) ∧ ∃ us : List V5, us.length = N ∧ (∀ j u, (flatV us)[j]? = some u → w'.cell? ⟨g, j, none⟩ = some u) ∧ OwnL B w' us (grpR J) ∧ Tch (fun b => b = g) w w' := by
  obtain ⟨D, hD1, hD2, hQ⟩ := mk_own hL hkl
  obtain ⟨dl, hd1⟩ := mk_sp (Q := QO B w) hQ
  have hpos : 0 < dl.length := by rw [← List.length_map (f := fun p : SP _ => p.1), hd1, ← List.length_map (f := fun p : V5 × Cel => p.1), hD1, hN]; exact hn1
  haveI : Inhabited (SP (QO B w)) := ⟨dl[0]⟩
  obtain ⟨d, rfl⟩ : ∃ d : Array (SP (QO B w)), dl = d.toList := ⟨dl.toArray, by simp⟩
  have hv1 : vs = d.toList.map fun p => p.1.1 := by rw [← hD1, ← hd1, List.map_map]; rfl
  have hsz : d.size = N := by rw [← hN, hv1]; simp
  obtain ⟨cur, hh, hcur⟩ : ∃ cur, w.heap[g]? = some (.cells cur 67 (0, 0)) ∧ cur.toList.take (N * 5) = flatV vs := by
    rcases ho.2 with ⟨e, _⟩ | ⟨g', cap, cur, e, _, h3, _, _, _, h7⟩
    · cases e
    · injection e with e1 _ _
      injection e1 with e1
      injection e1 with e1
      subst e1
      exact ⟨cur, h3, h7⟩
  have hgs : g < w.heap.size := (Array.getElem?_eq_some_iff.1 hh).1
  have hcell : ∀ j u, (flatV vs)[j]? = some u → w.cell? ⟨g, j, none⟩ = some u := fun j u hu => by
    rw [← hcur, List.getElem?_take] at hu
    split at hu
    · simpa [World.cell?, hh] using hu
    · cases hu
  have hHK : HoldsK encS 5 w g 0 d := fun j hj => by
    rw [size_flatK] at hj
    rw [Nat.zero_add]
    exact ⟨hcell _ _ (by rw [hv1]; exact flat_someS d j hj), by simp [World.frozen?, hh]⟩
  have hoS : ∀ (m : Nat) (dk : Array (SP (QO B w))) (os : Array Obj) {v : Value} {xs : List Int}, OI B w v xs → OI B (sortWorldK encS 5 w g 0 m dk os) v xs := fun m dk os {v xs} o => o.tch (tch_sortWorld encS g 0 m dk os w) hh (by decide)
  have hcmp : CmpLays Try.prog 55 #[] encS 5 cfK g 0 d.size w := fun m os dk _ (x y : SP (QO B w)) => by
    obtain ⟨⟨⟨a1, b1, s, n, mm⟩, cx⟩, ⟨h1, h2, h3⟩, hx⟩ := x
    obtain ⟨⟨⟨a', b', s', n', mm'⟩, cy⟩, ⟨h1', h2', h3'⟩, hy⟩ := y
    dsimp only at h1 h2 h1' h2' hx hy
    subst h1 h1'
    refine (tcmp_grow a1 s n mm a' s' n' mm' cx cy (sortWorldK encS 5 w g 0 m dk os) (CO.cr ⟨hoS m dk os h2.key, hoS m dk os h2.sum, hoS m dk os h2.mn, hoS m dk os h2.mx⟩) (CO.cr ⟨hoS m dk os h2'.key, hoS m dk os h2'.sum, hoS m dk os h2'.mn, hoS m dk os h2'.mx⟩) hx hy).mono ?_
    rintro e w' ⟨rfl, os', rfl⟩
    exact ⟨rfl, 0, os', rfl⟩
  have hs := AnyQ.slices_SortFunc sortKd 5 (show ∀ w, (isAgg 67).run Try.prog w = .ok true w from fun _ => by go_simp) (show ∀ w, (Go.sizeOf 67).run Try.prog w = .ok 5 w from fun _ => by go_simp) encS (fun x => rfl) (fun x v hv => x.2.1.reads.one v hv) cfK swoK 55 #[] g 0 c d w (enters_of Try.func55 (by kernel_rfl) rfl) hcmp hHK hgs (by omega)
  rw [hsz] at hs
  refine hs.mono ?_
  rintro e w3 ⟨rfl, d', q, os, P, Q, rfl⟩
  have hs' : d'.size = d.size := P.1
  have hH' := holdsK_sortWorldK_c encS 5 w g 0 d d' q os hHK hgs hs'
  have hperm : (d'.toList.map fun p => p.1).Perm D := by
    rw [← hd1]
    have hp := P.2.2
    rw [show N = d.size from hsz.symm] at hp
    have e1 : (d.extract 0 d.size).toList = d.toList := by simp
    have e2 : (d'.extract 0 d.size).toList = d'.toList := by rw [← hs']; simp
    rw [e1, e2] at hp
    exact hp.map _
  have hg : (d'.toList.map fun p => p.1.2) = grpR J := by
    refine sorted_grp ?_ hap ?_
    · rw [← hD2]
      have := hperm.map (fun p : V5 × Cel => p.2)
      rwa [List.map_map] at this
    · rw [List.pairwise_iff_getElem]
      intro i j hi hj hij
      simp only [List.length_map, Array.length_toList] at hi hj
      have h := Q i j (Nat.zero_le _) hij (by omega)
      rw [getElem!_pos d' i hi, getElem!_pos d' j hj] at h
      have h2 := of_decide_eq_false h
      unfold cfK at h2
      simp only [List.getElem_map, Array.getElem_toList]
      have := cmpL_anti d'[i].1.2.key d'[j].1.2.key
      omega
  refine ⟨rfl, d'.toList.map fun p => p.1.1, by simp; omega, fun j u hu => ?_, ?_, tch_sortWorld encS g 0 q d' os w⟩
  · obtain ⟨hj, e⟩ := flat_atS d' j u hu
    have h1 := (hH' j (by rw [size_flatK]; exact hj)).1
    rw [Nat.zero_add] at h1
    rw [h1, e]; rfl
  · rw [← hg]
    refine ⟨by simp, fun i v x hv hx => ?_⟩
    simp only [List.getElem?_map, Option.map_eq_some_iff] at hv hx
    obtain ⟨p, hp, rfl⟩ := hv
    obtain ⟨p', hp', rfl⟩ := hx
    rw [hp] at hp'
    injection hp' with hp'
    subst hp'
    exact OwnC.stay p.2.1 fun o => hoS q d' os o
end Go.Proofs.Ytioddfodajinlaa
/- Package hash: a table's cells are told. -/
namespace Go.Proofs.Ytioddfodajinlaa
open Go.RowKit
attribute [local go_sem] Oper.semAt_some
theorem own_ne {B b s n : Nat} {w : World} {e T : TypeId} {v : Value} {xs l : List Value} (h : w.ownsRow B e s v n xs) (hb : Own T w b l) (hT : T ≠ e) : v.ownBlock ≠ some b := fun e0 => by
  rcases h.2 with ⟨rfl, _⟩ | ⟨g, cap, cur, rfl, _, hh, _⟩
  · cases e0
  · simp only [Value.ownBlock, Option.some.injEq] at e0
    subst e0
    unfold Own at hb
    rw [hh] at hb
    injection hb with hb
    injection hb with _ h2
    exact hT h2.symm
theorem GRs.onlyL {B b : Nat} {w w' : World} {v : Value} {us : List V5} {J : List Cel} {T : TypeId} {l : List Value} (h : GRs B w v us J) (ho : Only b w w') (hb : Own T w b l) (hT : T ≠ 3) (hT2 : T ≠ 39) : GRs B w' v us J :=
  ⟨own_stay h.1 fun k hk => ho.block k (h.1.lt k hk).2 fun e => own_ne h.1 hb hT2 (by rw [hk, e]), h.2.stay fun o => o.onlyL ho hb hT⟩
theorem own_heap {B e s g c n : Nat} {w : World} {xs : List Value} (h : w.ownsRow B e s (.slice (some ⟨g, 0, none⟩) n c) n xs) : ∃ cur, w.heap[g]? = some (.cells cur e (0, 0)) := by
  rcases h.2 with ⟨e0, _⟩ | ⟨g', cap, cur, e0, _, h3, _⟩
  · cases e0
  · injection e0 with e1 _ _
    injection e1 with e1
    injection e1 with e1
    subst e1
    exact ⟨cur, h3⟩
/-- What groups came to so far. -/
structure Gs (B : Nat) (w : World) (G : Nat) (slots : Int) (outv : Value) (us : List V5) (J : List Cel) (parts : Nat) : Prop where
  bx : Own 81 w G [.int .i64 slots, outv, .int .i64 parts]
  out : GRs B w outv us J
  hG : B ≤ G
theorem Gs.below {B G parts : Nat} {w w' : World} {slots : Int} {outv : Value} {us : List V5} {J : List Cel} (h : Gs B w G slots outv us J parts) (hb : Below w.heap.size w w') : Gs B w' G slots outv us J parts := ⟨h.bx.below hb h.bx.lt, h.out.below hb, h.hG⟩
/-- The row is the one that it was, or new. -/
def OutRel (outv : Value) (w : World) (outv' : Value) : Prop := outv'.ownBlock = outv.ownBlock ∨ ∃ b, outv'.ownBlock = some b ∧ w.heap.size ≤ b
theorem OutRel.refl (v : Value) (w : World) : OutRel v w v := .inl rfl
theorem OutRel.trans {a b c : Value} {w w' : World} (h : OutRel a w b) (h' : OutRel b w' c) (hw : w.heap.size ≤ w'.heap.size) : OutRel a w c := by
  rcases h' with h' | ⟨k, h1, h2⟩
  · rcases h with h | ⟨k, h1, h2⟩
    · exact .inl (h'.trans h)
    · exact .inr ⟨k, h'.trans h1, h2⟩
  · exact .inr ⟨k, h1, by omega⟩
/-- Only the groups' box and the row of cells that were told have turned. -/
def TchG (G : Nat) (outv : Value) : World → World → Prop := Tch fun b => b = G ∨ outv.ownBlock = some b
theorem TchG.trans {G : Nat} {v v' : Value} {a b c : World} (h : TchG G v a b) (hr : OutRel v a v') (h' : TchG G v' b c) : TchG G v a c :=
  Tch.trans h h' fun k hk hn => by
    rcases hn with hn | hn
    · exact .inl hn
    · rcases hr with hr | ⟨q, h1, h2⟩
      · exact .inr (hr ▸ hn)
      · rw [h1] at hn
        injection hn with hn
        omega
theorem OutRel.down {a b : Value} {w w' : World} (h : OutRel a w' b) (hw : w.heap.size ≤ w'.heap.size) : OutRel a w b := by
  rcases h with h | ⟨k, h1, h2⟩
  · exact .inl h
  · exact .inr ⟨k, h1, by omega⟩
theorem OI.tchG {B B' G parts : Nat} {w w' : World} {slots : Int} {outv v : Value} {us : List V5} {J : List Cel} {xs : List Int} (h : OI B w v xs) (hG : Gs B' w G slots outv us J parts) (ht : TchG G outv w w') : OI B w' v xs :=
  ⟨own_stay h.1 fun k hk => ht.block k (h.1.lt k hk).2 fun e => by
    rcases e with e | e
    · exact own_ne h.1 hG.bx (by decide) (by rw [hk, e])
    · rcases own_apart h.1 hG.out.1 (by decide) with h0 | h0
      · rw [h0] at hk; cases hk
      · exact h0 (by rw [hk, e]), h.2⟩
/-- One more cell is told. -/
theorem Gs.step {B G parts : Nat} {w : World} {slots : Int} {outv : Value} {us : List V5} {J : List Cel} {u : V5} {x : Cel} (h : Gs B w G slots outv us J parts) (hu : OwnC B w u x) (hl : us.length + 1 ≤ 1000000) :
    ∃ g c X3, (Builtin.append_ #[29, 29] 29 #[outv, .slice (some ⟨w.heap.size, 0, none⟩) 1 1]).run Try.prog (w.alloc (.cells #[u.a, u.b, u.c, u.d, u.e] 39)) = .ok (.slice (some ⟨g, 0, none⟩) (us.length + 1) c) X3 ∧
      Own 81 X3 G [.int .i64 slots, outv, .int .i64 parts] ∧ Gs B (X3.setCell ⟨G, 1, none⟩ (.slice (some ⟨g, 0, none⟩) (us.length + 1) c)) G slots (.slice (some ⟨g, 0, none⟩) (us.length + 1) c) (us ++ [u]) (J ++ [x]) parts ∧
      OutRel outv w (.slice (some ⟨g, 0, none⟩) (us.length + 1) c) ∧ TchG G outv w (X3.setCell ⟨G, 1, none⟩ (.slice (some ⟨g, 0, none⟩) (us.length + 1) c)) := by
  have hB : B ≤ w.heap.size := Nat.le_of_lt (Nat.lt_of_le_of_lt h.hG h.bx.lt)
  obtain ⟨v', X3, hrun, hG3, hgr, hbl⟩ := append_one h.out hu hl hB
  obtain ⟨g, c, e⟩ := ownsRow_succ (k := us.length) (by simpa using hG3.1)
  subst e
  have hbx := h.bx.alloc (.cells #[u.a, u.b, u.c, u.d, u.e] 39)
  have hbx3 : Own 81 X3 G [.int .i64 slots, outv, .int .i64 parts] := (hgr.block G hbx.lt (fun e => own_ne h.out.1 h.bx (by decide) e.symm)).trans hbx
  have hon : Only G X3 (X3.setCell ⟨G, 1, none⟩ (.slice (some ⟨g, 0, none⟩) (us.length + 1) c)) := (Only.refl G X3).setCell _ _
  refine ⟨g, c, X3, hrun, hbx3, ⟨hbx3.set_ 1 _, hG3.onlyL hon hbx3 (by decide) (by decide), h.hG⟩, ?_, ?_⟩
  · rcases hbl with h1 | h1
    · exact .inl h1
    · exact .inr ⟨_, h1, by omega⟩
  · have t1 : Tch (fun b => b = G ∨ outv.ownBlock = some b) w (w.alloc (.cells #[u.a, u.b, u.c, u.d, u.e] 39)) := Tch.alloc _ w _
    exact (t1.same (Tch.of_grown hgr fun k e => .inr e.symm.symm)).same (Tch.of_only hon (.inl rfl))
set_option maxRecDepth 100000 in
set_option maxHeartbeats 4000000 in
theorem htell_some (B T g G parts : Nat) (slots d me : Int) (vs : List (Option V5)) (ts : List (Option Cel)) (outv : Value) (us : List V5) (J : List Cel) (w : World) (hB : Tb B w T g d me vs ts) (hN2 : ts.length ≤ 10000) (hI : InvT ts) (hkl : ∀ x ∈ cellsT ts, x.key.length ≤ 1000000) (hne : 1 ≤ (cellsT ts).length) (hG : Gs B w G slots outv us J parts) (hul : us.length + (cellsT ts).length ≤ 100000) (hp : parts ≤ 1000000) :
    Calls Try.prog 50 #[.pointer (some ⟨G, 0, none⟩), .pointer (some ⟨T, 0, none⟩)] w fun e w' => (∃ v, e = .returned v) ∧ ∃ outv' us', Gs B w' G slots outv' us' (J ++ grpR (cellsT ts)) (parts + 1) ∧ OutRel outv w outv' ∧ TchG G outv w w' := by
  have HE := Lib.hid (hentries_any B T g d me vs ts w hB hN2)
  have hap := inv_apart hI
  have hil := inv_len hI
  obtain ⟨E, hE⟩ : ∃ E, E = cellsT ts := ⟨_, rfl⟩
  rw [← hE] at HE hkl hne hap hil hul ⊢
  obtain ⟨N, hN⟩ : ∃ N, N = E.length := ⟨_, rfl⟩
  rw [← hN] at hne hul hil
  have hcl : N ≤ 10000 := by rw [hN, hE]; exact Nat.le_trans (cells_le ts) hN2
  have HG := Lib.hid hG
  have HAP := Lib.hid hap
  have HKL := Lib.hid hkl
  have HN := Lib.hid hN
  clear hB hI hG hap hkl hE hN hN2
  go_enter Try.func50, Try.ntmps50
  go_wp2_with fail
  refine HE.out.mono ?_
  rintro e w2 ⟨lv, ue, rfl, ho2, hL2, hb2⟩
  clear HE
  have hel : ue.length = N := by rw [hL2.1, HN.out]
  obtain ⟨ge, c, e1⟩ := ownsRow_succ (k := N - 1) (by rw [show N - 1 + 1 = ue.length by omega]; exact ho2)
  rw [show N - 1 + 1 = N by omega] at e1
  subst e1
  rw [hel] at ho2
  have hlt := (ho2.lt ge rfl)
  obtain ⟨cur, hcur⟩ := own_heap ho2
  have HSO := Lib.hid (ksort_any B w.heap.size ge c N ue E w2 ho2 hL2 HKL.out hel hne (by omega) HAP.out)
  have HG2 := Lib.hid (HG.out.below hb2)
  have Hb2 := Lib.hid hb2
  have HGE : Hid (w.heap.size ≤ ge) := Lib.hid hlt.1
  have hgG : ge ≠ G := by have := HG.out.bx.lt; omega
  have hgO : ∀ (k : Nat), outv.ownBlock = some k → k ≠ ge := fun k hk => by have := (HG.out.out.1.lt k hk).2; omega
  have HGO := Lib.hid hgO
  clear hb2 ho2 hL2 hel hlt hgO
  go_wp2_with fail
  refine HSO.out.mono ?_
  rintro e w3 ⟨rfl, es, hes, hce, hL3, ht3⟩
  clear HSO
  have hg3 : Gs B w3 G slots outv us J parts := by
    refine ⟨(ht3.block G HG2.out.bx.lt (fun e => hgG e.symm)).trans HG2.out.bx, ⟨own_stay HG2.out.out.1 fun k hk => ht3.block k (HG2.out.out.1.lt k hk).2 (fun e => HGO.out k hk e), ?_⟩, HG2.out.hG⟩
    exact HG2.out.out.2.stay fun o => o.tch ht3 hcur (by decide)
  have Hb3 : Hid (Tch (fun b => b = G ∨ outv.ownBlock = some b) w w3) := Lib.hid ((Tch.of_below _ Hb2.out).trans ht3 fun k hk e => by have := HGE.out; omega)
  have Z3 : Hid (w.heap.size ≤ w3.heap.size) := Lib.hid Hb3.out.size
  have HG3 := Lib.hid hg3
  have HCE := Lib.hid hce
  have HL3 := Lib.hid hL3
  have Hes := Lib.hid hes
  have GE : Hid ((grpR E).length = N) := Lib.hid hil
  clear hg3 hce hL3 hes ht3 hcur
  have dN : decide ((0 : Int) < (N : Int)) = true := decide_eq_true (by omega)
  go_wp2_with fail
  go_loopw [15] (fun i wr => ∃ (k : Nat) (outv' : Value) (us' : List V5), i = .int .i64 k ∧ k ≤ N ∧ us'.length = us.length + k ∧ Gs B wr G slots outv' us' (J ++ (grpR E).take k) parts ∧ OutRel outv w3 outv' ∧ TchG G outv w3 wr) (fun i _ => N - (intOf i).toNat)
  case atStart => exact ⟨0, outv, us, rfl, Nat.zero_le _, rfl, by simpa using HG3.out, OutRel.refl _ _, Tch.refl _ _⟩
  case round =>
    obtain ⟨k, outv', us', rfl, hk, hul', hG', hR', hT'⟩ := hrel
    rename World => wr
    by_cases hlt : k < N
    · have i0 : (0 : Int) ≤ (k : Int) := by omega
      have i1 : (k : Int) < (N : Int) := by omega
      have d1 : decide ((k : Int) < (N : Int)) = true := decide_eq_true i1
      obtain ⟨x, hx⟩ : ∃ x, (grpR E)[k]? = some x := ⟨_, List.getElem?_eq_getElem (by rw [GE.out]; exact hlt)⟩
      obtain ⟨u, hu⟩ : ∃ u, es[k]? = some u := ⟨_, List.getElem?_eq_getElem (by rw [Hes.out]; exact hlt)⟩
      obtain ⟨ka, kb, kc, kd, ke⟩ := u
      have hoc := HL3.out.2 k _ x hu hx
      obtain ⟨f0, f1, f2, f3, f4⟩ := flatV_at hu
      have hce : ∀ j u, (flatV es)[j]? = some u → wr.cell? ⟨ge, j, none⟩ = some u := fun j u h => by
        have h1 := HCE.out j u h
        rw [World.cell?_of_block (hT'.block ge (block_lt h1) (fun e => by
          rcases e with e | e
          · exact hgG e
          · exact HGO.out ge e rfl))]
        exact h1
      have hoc2 : OwnC B wr ⟨ka, kb, kc, kd, ke⟩ x := hoc.stay fun o => o.tchG HG3.out hT'
      obtain ⟨e0, hco, hix⟩ := hoc2
      dsimp only at e0 hco
      subst e0
      have q0 : wr.cell? ⟨ge, k * 5, none⟩ = some ka := hce _ _ f0
      have q1 : wr.cell? ⟨ge, k * 5 + 1, none⟩ = some (.int .i64 x.cnt) := hce _ _ f1
      have q2 : wr.cell? ⟨ge, k * 5 + 2, none⟩ = some kc := hce _ _ f2
      have q3 : wr.cell? ⟨ge, k * 5 + 3, none⟩ = some kd := hce _ _ f3
      have q4 : wr.cell? ⟨ge, k * 5 + 4, none⟩ = some ke := hce _ _ f4
      have hx5 : OwnC B wr ⟨ka, .int .i64 x.cnt, kc, kd, ke⟩ x := ⟨rfl, hco, hix⟩
      obtain ⟨P1, d1', g1, -⟩ := hco.key.form
      obtain ⟨P2, d2', g2, -⟩ := hco.sum.form
      obtain ⟨P3, d3', g3, -⟩ := hco.mn.form
      obtain ⟨P4, d4', g4, -⟩ := hco.mx.form
      generalize x.key.length = m1 at g1
      generalize x.sum.length = m2 at g2
      generalize x.mn.length = m3 at g3
      generalize x.mx.length = m4 at g4
      subst g1 g2 g3 g4
      obtain ⟨xc, exc⟩ : ∃ z, z = x.cnt := ⟨_, rfl⟩
      rw [← exc] at q1 hx5
      have htk : (grpR E).take (k + 1) = (grpR E).take k ++ [x] := by rw [List.take_add_one, hx]; rfl
      obtain ⟨w5, hw5⟩ : ∃ w5, w5 = wr.alloc (.cells #[.slice P1 m1 d1', .int .i64 xc, .slice P2 m2 d2', .slice P3 m3 d3', .slice P4 m4 d4'] 67) := ⟨_, rfl⟩
      have o5 : Own 67 w5 wr.heap.size [.slice P1 m1 d1', .int .i64 xc, .slice P2 m2 d2', .slice P3 m3 d3', .slice P4 m4 d4'] := by rw [hw5]; exact heap_alloc_new wr _
      have hb5 : Below wr.heap.size wr w5 := by rw [hw5]; exact (Below.refl _ _).alloc (Nat.le_refl _) _
      have bx5 := o5.bx
      have hG5 := (hG'.below hb5).below (Below.refl _ w5).drew
      obtain ⟨g, cp, X3, hrun, hbx3, hG7, hR7, hT7⟩ := hG5.step ((hx5.stay fun o => o.below hb5).stay fun o => o.below (Below.refl _ w5).drew) (by omega)
      dsimp only at hrun hG7
      have z1 := hG5.bx.cell (i := 1) rfl
      have y1 := hbx3.cell (i := 1) rfl
      have yf := hbx3.frozen 1
      have hR8 : OutRel outv w3 (.slice (some ⟨g, 0, none⟩) (us'.length + 1) cp) := hR'.trans (hR7.down (w := wr) (Nat.le_trans hb5.size (Nat.le_refl _))) hT'.size
      have hT8 : TchG G outv w3 (X3.setCell ⟨G, 1, none⟩ (.slice (some ⟨g, 0, none⟩) (us'.length + 1) cp)) := hT'.trans hR' (Tch.same (Tch.of_below _ (hb5.trans ((Below.refl _ w5).drew.mono hb5.size))) hT7)
      have lt5 : wr.heap.size ≠ G := by have := hG'.bx.lt; omega
      have HUL := Lib.hid hul'
      have Hrun := Lib.hid hrun
      have HG7 := Lib.hid hG7
      have HR8 := Lib.hid hR8
      have HT8 := Lib.hid hT8
      have HW5 := Lib.hid hw5
      have HTK := Lib.hid htk
      clear hul' hrun hbx3 hG7 hR7 hT7 hR8 hT8 hG5 hw5 o5 hb5 hx hu hoc f0 f1 f2 f3 f4 hce hx5 exc htk hco hix hG' hR' hT'
      go_upto_region 5 with (fail)
      rw [← HW5.out]
      clear q0 q1 q2 q3 q4
      refine region_P (S := fun W => W.cell? ⟨G, 1, none⟩ = some outv' ∧ Bx W wr.heap.size (.slice P1 m1 d1') (.int .i64 xc) (.slice P2 m2 d2') (.slice P3 m3 d3') (.slice P4 m4 d4')) (kill := [7,10]) (by kernel_rfl) ⟨z1, bx5⟩ (fun hHeld => ?_)
      refine anyP_pure (i := 0) (v := ?vpa0) rfl (by kernel_rfl) (by kernel_rfl) (by kernel_rfl) (by kernel_rfl) (fun _ _ _ h => h) (Or.inl ⟨by rfl, ?ypa0⟩) ?rpa0
      case ypa0 => (intro W hW; go_simp; first | done | with_reducible rfl)
      try simp only [List.getElem_toArray, List.getElem_cons_zero, Act.put, List.setIfInBounds_toArray, List.set_cons_zero, List.set_cons_succ]
      refine anyP_take (i := 1) (v := ?vpa1) rfl (by kernel_rfl) (by kernel_rfl) (by kernel_rfl) (by kernel_rfl) (by kernel_rfl) (fun _ _ _ h => h) (Or.inl ⟨by rfl, ?ypa1⟩) hHeld ?rpa1
      case ypa1 => (intro W hW; obtain ⟨p0, p1, p2, p3, p4, p5⟩ := hW; go_simp; first | done | with_reducible rfl)
      try simp only [List.getElem_toArray, List.getElem_cons_succ, List.getElem_cons_zero, Act.put, List.setIfInBounds_toArray, List.set_cons_zero, List.set_cons_succ]
      refine anyP_take (i := 2) (v := ?vpa2) rfl (by kernel_rfl) (by kernel_rfl) (by kernel_rfl) (by kernel_rfl) (by kernel_rfl) (fun _ _ _ h => h) (Or.inl ⟨by rfl, ?ypa2⟩) hHeld ?rpa2
      case ypa2 => (intro W hW; obtain ⟨p0, p1, p2, p3, p4, p5⟩ := hW; go_simp; first | done | with_reducible rfl)
      try simp only [List.getElem_toArray, List.getElem_cons_succ, List.getElem_cons_zero, Act.put, List.setIfInBounds_toArray, List.set_cons_zero, List.set_cons_succ]
      refine anyP_take (i := 3) (v := ?vpa3) rfl (by kernel_rfl) (by kernel_rfl) (by kernel_rfl) (by kernel_rfl) (by kernel_rfl) (fun _ _ _ h => h) (Or.inl ⟨by rfl, ?ypa3⟩) hHeld ?rpa3
      case ypa3 => (intro W hW; obtain ⟨p0, p1, p2, p3, p4, p5⟩ := hW; go_simp; first | done | with_reducible rfl)
      try simp only [List.getElem_toArray, List.getElem_cons_succ, List.getElem_cons_zero, Act.put, List.setIfInBounds_toArray, List.set_cons_zero, List.set_cons_succ]
      refine anyP_take (i := 4) (v := ?vpa4) rfl (by kernel_rfl) (by kernel_rfl) (by kernel_rfl) (by kernel_rfl) (by kernel_rfl) (fun _ _ _ h => h) (Or.inl ⟨by rfl, ?ypa4⟩) hHeld ?rpa4
      case ypa4 => (intro W hW; obtain ⟨p0, p1, p2, p3, p4, p5⟩ := hW; go_simp; first | done | with_reducible rfl)
      try simp only [List.getElem_toArray, List.getElem_cons_succ, List.getElem_cons_zero, Act.put, List.setIfInBounds_toArray, List.set_cons_zero, List.set_cons_succ]
      refine anyP_take (i := 5) (v := ?vpa5) rfl (by kernel_rfl) (by kernel_rfl) (by kernel_rfl) (by kernel_rfl) (by kernel_rfl) (fun _ _ _ h => h) (Or.inl ⟨by rfl, ?ypa5⟩) hHeld ?rpa5
      case ypa5 => (intro W hW; obtain ⟨p0, p1, p2, p3, p4, p5⟩ := hW; go_simp; first | done | with_reducible rfl)
      try simp only [List.getElem_toArray, List.getElem_cons_succ, List.getElem_cons_zero, Act.put, List.setIfInBounds_toArray, List.set_cons_zero, List.set_cons_succ]
      have kp6 : Keeps w5.drew (w5.drew.alloc (.cells #[.slice P1 m1 d1', .int .i64 xc, .slice P2 m2 d2', .slice P3 m3 d3', .slice P4 m4 d4'] 39)) := (Keeps.refl _).alloc _
      refine anyP_ready (rs := [6]) (by kernel_rfl) (by simp) ?_
      refine AllP.cons rfl (fun K hK => ?_) (AllP.nil)
      go_simp
      refine hK.out _ _ (fun _ hh => ⟨kp6 _ _ hh.1, hh.2.keep kp6⟩) ?_
      clear hK K
      try simp only [List.getElem_toArray, List.getElem_cons_succ, List.getElem_cons_zero, Act.put, List.setIfInBounds_toArray, List.set_cons_zero, List.set_cons_succ]
      clear hHeld kp6 z1 bx5
      refine anyP_ready (rs := [7]) (by kernel_rfl) (by simp) ?_
      refine AllP.cons rfl (fun K hK => ?_) (AllP.nil)
      refine step_append_eq (by rfl) (.tmp 23) (.tmp 25) 29 (by rfl) outv' (.slice (some ⟨w5.heap.size, 0, none⟩) 1 1) (.slice (some ⟨g, 0, none⟩) (us'.length + 1) cp) X3 (by rfl) (by rfl) Hrun.out ?_
      refine hK.out _ _ (fun h => absurd (by decide) h) ?_
      clear hK K
      try simp only [List.getElem_toArray, List.getElem_cons_succ, List.getElem_cons_zero, Act.put, List.setIfInBounds_toArray, List.set_cons_zero, List.set_cons_succ]
      refine anyP_pure (i := 8) (v := ?vpa8) rfl (by kernel_rfl) (by kernel_rfl) (by kernel_rfl) (by kernel_rfl) (fun _ _ _ h => h) (Or.inl ⟨by rfl, ?ypa8⟩) ?rpa8
      case ypa8 => (intro W hW; go_simp; first | done | with_reducible rfl)
      try simp only [List.getElem_toArray, List.getElem_cons_succ, List.getElem_cons_zero, Act.put, List.setIfInBounds_toArray, List.set_cons_zero, List.set_cons_succ]
      refine anyP_pure (i := 9) (v := ?vpa9) rfl (by kernel_rfl) (by kernel_rfl) (by kernel_rfl) (by kernel_rfl) (fun _ _ _ h => h) (Or.inl ⟨by rfl, ?ypa9⟩) ?rpa9
      case ypa9 => (intro W hW; go_simp; first | done | with_reducible rfl)
      try simp only [List.getElem_toArray, List.getElem_cons_succ, List.getElem_cons_zero, Act.put, List.setIfInBounds_toArray, List.set_cons_zero, List.set_cons_succ]
      refine anyP_ready (rs := [10]) (by kernel_rfl) (by simp) ?_
      refine AllP.cons rfl (fun K hK => ?_) (AllP.nil)
      go_simp
      refine hK.out _ _ (fun h => absurd (by decide) h) ?_
      clear hK K
      try simp only [List.getElem_toArray, List.getElem_cons_succ, List.getElem_cons_zero, Act.put, List.setIfInBounds_toArray, List.set_cons_zero, List.set_cons_succ]
      refine anyP_done (by kernel_rfl) ?_ _
      clear y1 yf
      go_wp2
      go_roundw
      case rel => exact ⟨k + 1, _, us' ++ [⟨.slice P1 m1 d1', .int .i64 xc, .slice P2 m2 d2', .slice P3 m3 d3', .slice P4 m4 d4'⟩], by go_num, by omega, by rw [List.length_append, HUL.out]; simp; omega, by rw [HTK.out, ← List.append_assoc]; exact HG7.out, HR8.out, HT8.out⟩
      case measure => simp [intOf]; omega
    · obtain rfl : k = N := by omega
      rw [List.take_of_length_le (Nat.le_of_eq GE.out)] at hG'
      have d1 : decide ((k : Int) < (k : Int)) = false := by simp
      have y2 := hG'.bx.cell (i := 2) rfl
      have yf := hG'.bx.frozen 2
      have hwr : IntKind.i64.wrap ((parts : Int) + 1) = ((parts + 1 : Nat) : Int) := by rw [IntWalk.i64_in _ (by omega)]; push_cast; rfl
      have hon : Only G wr (wr.setCell ⟨G, 2, none⟩ (.int .i64 ((parts + 1 : Nat) : Int))) := (Only.refl G wr).setCell _ _
      have hfin : Gs B (wr.setCell ⟨G, 2, none⟩ (.int .i64 ((parts + 1 : Nat) : Int))) G slots outv' us' (J ++ grpR E) (parts + 1) := ⟨hG'.bx.set_ 2 _, hG'.out.onlyL hon hG'.bx (by decide) (by decide), hG'.hG⟩
      have htf : TchG G outv w (wr.setCell ⟨G, 2, none⟩ (.int .i64 ((parts + 1 : Nat) : Int))) := (Hb3.out.same hT').same (Tch.of_only hon (.inl rfl))
      have Hfin := Lib.hid hfin
      have Htf := Lib.hid htf
      have HRf := Lib.hid (hR'.down Z3.out)
      clear hfin htf hon hG' hR' hT'
      go_wp2
      go_end0
      have e : ((parts + 1 : Nat) : Int) = (parts : Int) + 1 := by push_cast; rfl
      rw [← e]
      exact ⟨⟨_, rfl⟩, outv', us', Hfin.out, HRf.out, Htf.out⟩
end Go.Proofs.Ytioddfodajinlaa
