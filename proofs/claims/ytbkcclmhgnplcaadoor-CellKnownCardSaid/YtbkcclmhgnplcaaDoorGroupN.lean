/- slices.SortStableFunc of a row of cells of the call's own, 60 at most, by their keys. -/
import Derived.Test.YtbkcclmhgnplcaaDoorCel7
import Derived.Test.YtbkcclmhgnplcaaDoorStab5
import Derived.Test.YtbkcclmhgnplcaaDoorCel8
import Derived.Test.YtbkcclmhgnplcaaDoorCel9
namespace Go.Proofs.YtbkcclmhgnplcaaDoor
open Go.RowKit Go.Shelf Go.Sort Go.Lib
set_option maxRecDepth 100000 in
set_option maxHeartbeats 1000000 in
theorem gcmp_grow (k s n m k' s' n' m' : Value) (x y : Cel) (w : World) (hx : CR w k s n m x) (hy : CR w k' s' n' m' y) (h1 : x.key.length ≤ 1000000) (h2 : y.key.length ≤ 1000000) :
    Calls Tryd.prog 51 #[.agg #[k, .int .i64 x.cnt, s, n, m], .agg #[k', .int .i64 y.cnt, s', n', m']] w fun e w' => e = .returned (.int .i64 (cmpL x.key y.key)) ∧ ∃ os, w' = grow w os := by
  obtain ⟨⟨Pk, ck, rfl, hk⟩, ⟨Ps, cs, rfl, hs⟩, ⟨Pn, cn, rfl, hn⟩, ⟨Pm, cm, rfl, hm⟩⟩ := hx
  obtain ⟨⟨Qk, dk, rfl, gk⟩, ⟨Qs, ds, rfl, gs⟩, ⟨Qn, dn, rfl, gn⟩, ⟨Qm, dm, rfl, gm⟩⟩ := hy
  have R1 : Hid (RI w (.slice Pk x.key.length ck) x.key) := Lib.hid ⟨_, _, rfl, hk⟩
  have R2 : Hid (RI w (.slice Qk y.key.length dk) y.key) := Lib.hid ⟨_, _, rfl, gk⟩
  have L1 := Lib.hid h1
  have L2 := Lib.hid h2
  clear hk hs hn hm gk gs gn gm h1 h2
  generalize hlk : x.key.length = lk at R1 L1 ⊢
  generalize hlq : y.key.length = lq at R2 L2 ⊢
  have hb : Below w.heap.size w ((w.alloc (.cells #[.slice Pk lk ck, .int .i64 x.cnt, .slice Ps x.sum.length cs, .slice Pn x.mn.length cn, .slice Pm x.mx.length cm] 33)).alloc (.cells #[.slice Qk lq dk, .int .i64 y.cnt, .slice Qs y.sum.length ds, .slice Qn y.mn.length dn, .slice Qm y.mx.length dm] 33)) := ((Below.refl _ w).alloc (Nat.le_refl _) _).alloc (by simp) _
  have HB := Lib.hid hb
  have E1 := Lib.hid hlk
  have E2 := Lib.hid hlq
  clear hb hlk hlq
  go_enter Tryd.func51, Tryd.ntmps51
  go_wp2_with fail
  refine (less_any _ _ x.key y.key _ (R1.out.keep (Keeps.of_below HB.out)) (R2.out.keep (Keeps.of_below HB.out)) (by rw [E1.out]; exact L1.out) (by rw [E2.out]; exact L2.out)).mono ?_
  rintro e w' ⟨rfl, rfl⟩
  go_wp2
  go_ret
  exact ⟨rfl, _, by rw [alloc_eq_grow, alloc_eq_grow, grow_grow]⟩
/-- A cell, by its values, that reads so in w. -/
abbrev CV (w : World) := { p : V5 × Cel // Reads w p.1 p.2 ∧ p.2.key.length ≤ 1000000 }
def encC {w : World} (p : CV w) : List Value := p.1.1.l
def cmpC {w : World} (p q : CV w) : Int := cmpL p.1.2.key q.1.2.key
theorem ri_none (w : World) : RI w (.slice none 0 0) [] := (OI.nil 0 w).ri
instance (w : World) : Inhabited (CV w) := ⟨⟨(⟨.slice none 0 0, .int .i64 0, .slice none 0 0, .slice none 0 0, .slice none 0 0⟩, ⟨[], 0, [], [], []⟩), ⟨rfl, ⟨ri_none w, ri_none w, ri_none w, ri_none w⟩, ⟨by decide, by decide⟩⟩, by simp⟩⟩
theorem swoC (w : World) : SWO (ltOf (cmpC (w := w))) where
  irrefl x := by simp [ltOf, cmpC, cmpL_self]
  trans x y z h1 h2 := by
    have a := of_decide_eq_true h1
    have b := of_decide_eq_true h2
    refine decide_eq_true ?_
    unfold cmpC at *
    have c := cmpL_trans (Int.le_of_lt a) (Int.le_of_lt b)
    rcases Int.lt_or_eq_of_le c with h | h
    · exact h
    · rw [← cmpL_zero.1 h] at b
      have := cmpL_anti x.1.2.key y.1.2.key
      omega
  ntrans x y z h1 h2 := by
    have a := of_decide_eq_false h1
    have b := of_decide_eq_false h2
    refine decide_eq_false ?_
    unfold cmpC at *
    have e1 := cmpL_anti x.1.2.key y.1.2.key
    have e2 := cmpL_anti y.1.2.key z.1.2.key
    have e3 := cmpL_anti x.1.2.key z.1.2.key
    have := cmpL_trans (s := z.1.2.key) (t := y.1.2.key) (u := x.1.2.key) (by omega) (by omega)
    omega
theorem mk_cv {w : World} : ∀ {vs : List V5} {l : List Cel}, ReadsL w vs l → (∀ x ∈ l, x.key.length ≤ 1000000) → ∃ d : List (CV w), d.map (fun p => p.1.1) = vs ∧ d.map (fun p => p.1.2) = l
  | [], [], _, _ => ⟨[], rfl, rfl⟩
  | [], _ :: _, h, _ => by have := h.1; simp at this
  | _ :: _, [], h, _ => by have := h.1; simp at this
  | v :: vs, x :: l, h, hk => by
    obtain ⟨d, h1, h2⟩ := mk_cv (vs := vs) (l := l) ⟨by have := h.1; simpa using this, fun i u y hu hy => h.2 (i + 1) u y (by simpa using hu) (by simpa using hy)⟩ fun y hy => hk y (List.mem_cons_of_mem _ hy)
    exact ⟨⟨(v, x), h.2 0 v x rfl rfl, hk x (by simp)⟩ :: d, by simp [h1], by simp [h2]⟩
theorem flat_at {w : World} (d : Array (CV w)) (j : Nat) (u : Value) (h : (flatV (d.toList.map fun p => p.1.1))[j]? = some u) : j < d.size * 5 ∧ (flatK encC 5 d)[j]! = u := by
  have hj : j < d.size * 5 := by
    have := (List.getElem?_eq_some_iff.1 h).1
    rw [flatV_len] at this
    simpa using this
  refine ⟨hj, ?_⟩
  rw [get_flatK _ _ _ _ hj]
  have hi : j / 5 < d.size := by omega
  have hv : (d.toList.map fun p => p.1.1)[j / 5]? = some (d[j / 5]!).1.1 := by
    rw [getElem!_pos d (j / 5) hi]
    simp [hi]
  obtain ⟨f0, f1, f2, f3, f4⟩ := flatV_at hv
  unfold encC V5.l
  rcases (by omega : j % 5 = 0 ∨ j % 5 = 1 ∨ j % 5 = 2 ∨ j % 5 = 3 ∨ j % 5 = 4) with e | e | e | e | e <;> rw [e]
  · rw [show j / 5 * 5 = j by omega, h] at f0; injection f0 with f0; simp [f0]
  · rw [show j / 5 * 5 + 1 = j by omega, h] at f1; injection f1 with f1; simp [f1]
  · rw [show j / 5 * 5 + 2 = j by omega, h] at f2; injection f2 with f2; simp [f2]
  · rw [show j / 5 * 5 + 3 = j by omega, h] at f3; injection f3 with f3; simp [f3]
  · rw [show j / 5 * 5 + 4 = j by omega, h] at f4; injection f4 with f4; simp [f4]
theorem flat_some {w : World} (d : Array (CV w)) (j : Nat) (h : j < d.size * 5) : (flatV (d.toList.map fun p => p.1.1))[j]? = some (flatK encC 5 d)[j]! := by
  obtain ⟨u, hu⟩ : ∃ u, (flatV (d.toList.map fun p => p.1.1))[j]? = some u := ⟨_, List.getElem?_eq_getElem (by rw [flatV_len]; simpa using h)⟩
  rw [hu, (flat_at d j u hu).2]
theorem cell_lt {w : World} {a : Addr} {v : Value} (h : w.cell? a = some v) : a.block < w.heap.size := by
  rcases Nat.lt_or_ge a.block w.heap.size with h1 | h1
  · exact h1
  · simp [World.cell?, Array.getElem?_eq_none h1] at h
theorem below_sortWorld {w : World} {α : Type} [Inhabited α] (enc : α → List Value) (k B g n : Nat) (d : Array α) (os : Array Obj) (hB : B ≤ w.heap.size) (hg : B ≤ g) : RowKit.Below B w (sortWorldK enc k w g 0 n d os) := by
  unfold sortWorldK
  refine ⟨rfl, rfl, rfl, ?_, fun q hq => ?_⟩
  · rw [size_grow, size_putRowK]; exact Nat.le_add_right _ _
  · rw [heap_grow_old _ _ (by rw [size_putRowK]; show q < w.heap.size; omega)]
    simp only [putRowK, putRow, mapBlock, Array.getElem?_modify]
    rw [if_neg (by omega)]
    rfl
/-- No cell is less than one ahead of it. -/
def SortedP (l : List Cel) : Prop := ∀ (i j : Nat) (x y : Cel), i < j → l[i]? = some x → l[j]? = some y → 0 ≤ cmpL y.key x.key
set_option maxRecDepth 100000 in
theorem sortC_any (B g c N : Nat) (vs : List V5) (l : List Cel) (w w2 : World) (hB : B = w.heap.size) (hr : ReadsL w vs l) (hk : Keeps w w2) (hg : B ≤ g) (ho : w2.ownsRow B 33 5 (.slice (some ⟨g, 0, none⟩) N c) N (flatV vs))
    (hkl : ∀ x ∈ l, x.key.length ≤ 1000000) (hN : vs.length = N) (hn : N ≤ 60) (hz : B ≤ w2.heap.size) :
    Calls Tryd.prog 50 #[.slice (some ⟨g, 0, none⟩) N c, .func (.func 51) #[] #[]] w2 fun e w3 => (∃ v, e = .returned v) ∧ ∃ l', l'.Perm l ∧ SortedP l' ∧ CellsR w3 ⟨g, 0, none⟩ l' ∧ Below B w2 w3 := by
  obtain ⟨dl, hd1, hd2⟩ := mk_cv hr hkl
  obtain ⟨d, rfl⟩ : ∃ d : Array (CV w), dl = d.toList := ⟨dl.toArray, by simp⟩
  have hsz : d.size = N := by rw [← hN, ← hd1]; simp
  obtain ⟨cur, hh, hcur⟩ : ∃ cur, w2.heap[g]? = some (.cells cur 33 (0, 0)) ∧ cur.toList.take (N * 5) = flatV vs := by
    rcases ho.2 with ⟨e, _⟩ | ⟨g', cap, cur, e, _, h3, _, _, _, h7⟩
    · cases e
    · injection e with e1 _ _
      injection e1 with e1
      injection e1 with e1
      subst e1
      exact ⟨cur, h3, h7⟩
  have hgs : g < w2.heap.size := (Array.getElem?_eq_some_iff.1 hh).1
  have hcell : ∀ j u, (flatV vs)[j]? = some u → w2.cell? ⟨g, j, none⟩ = some u := fun j u hu => by
    rw [← hcur, List.getElem?_take] at hu
    split at hu
    · simpa [World.cell?, hh] using hu
    · cases hu
  have hfr : ∀ j, j < d.size * 5 → w2.frozen? ⟨g, j, none⟩ = false := fun j _ => by
    simp [World.frozen?, hh]
  have hH : HoldsK encC 5 w2 g 0 d := fun j hj => by
    rw [size_flatK] at hj
    rw [Nat.zero_add]
    exact ⟨hcell _ _ (by rw [← hd1]; exact flat_some d j hj), hfr j hj⟩
  have hkX : ∀ (m : Nat) (dk : Array (CV w)) (os : Array Obj), Keeps w (sortWorldK encC 5 w2 g 0 m dk os) := fun m dk os p v hp => by
    have hlt := cell_lt hp
    rw [(below_sortWorld encC 5 B g m dk os hz hg).cell (p := p) (by omega)]
    exact hk p v hp
  have hcmp : CmpLays Tryd.prog 51 #[] encC 5 cmpC g 0 d.size w2 := fun m os dk _ x y => by
    obtain ⟨⟨⟨a, b, s, n, mm⟩, cx⟩, ⟨h1, h2, h3⟩, hx⟩ := x
    obtain ⟨⟨⟨a', b', s', n', mm'⟩, cy⟩, ⟨h1', h2', h3'⟩, hy⟩ := y
    dsimp only at h1 h2 h1' h2' hx hy
    subst h1 h1'
    have := gcmp_grow a s n mm a' s' n' mm' cx cy (sortWorldK encC 5 w2 g 0 m dk os) (h2.keep (hkX _ _ _)) (h2'.keep (hkX _ _ _)) hx hy
    refine this.mono ?_
    rintro e w' ⟨rfl, os', rfl⟩
    exact ⟨rfl, 0, os', rfl⟩
  have hR : RowK encC 5 w2 g 0 d := ⟨fun x => rfl, fun x v hv => x.2.1.one v hv, hH, hgs⟩
  have hs := Stab.stable_any encC cmpC (swoC w) 51 #[] g 0 c d w2 (enters_of Tryd.func51 (by kernel_rfl) rfl) hcmp hR (by omega)
  rw [hsz] at hs
  have HI := Lib.hid hs
  have FIN := Lib.hid (fun (d' : Array (CV w)) (w3 : World) (S : SWK encC 5 w2 g 0 d' w3) (P : PermIn 0 N d d') (Q : SortedIn (ltOf cmpC) 0 N d') => (show ∃ l', l'.Perm l ∧ SortedP l' ∧ CellsR w3 ⟨g, 0, none⟩ l' ∧ Below B w2 w3 from by
    have hs' : d'.size = d.size := P.1
    have hH' := S.holds hgs hH hs'
    obtain ⟨n, os, rfl⟩ := S
    refine ⟨d'.toList.map fun p => p.1.2, ?_, fun i j x y hij hx hy => ?_, ?_, below_sortWorld encC 5 B g n d' os hz hg⟩
    · rw [← hd2]
      have hp := P.2.2
      rw [show N = d.size from hsz.symm] at hp
      have e1 : (d.extract 0 d.size).toList = d.toList := by simp
      have e2 : (d'.extract 0 d.size).toList = d'.toList := by rw [← hs']; simp
      rw [e1, e2] at hp
      exact hp.map _
    · have hjl : j < d'.size := by have := (List.getElem?_eq_some_iff.1 hy).1; simpa using this
      have hil : i < d'.size := by omega
      simp only [List.getElem?_map, Array.getElem?_toList, Array.getElem?_eq_getElem hjl, Array.getElem?_eq_getElem hil, Option.map_some, Option.some.injEq] at hx hy
      subst hx hy
      have h := Q i j (Nat.zero_le _) hij (by omega)
      rw [getElem!_pos d' i hil, getElem!_pos d' j hjl] at h
      have := of_decide_eq_false h
      unfold cmpC at this
      omega
    · refine cells_of_vals (vs := d'.toList.map fun p => p.1.1) ⟨by simp, fun i v x hv hx => ?_⟩ fun j u hu => ?_
      · simp only [List.getElem?_map, Option.map_eq_some_iff] at hv hx
        obtain ⟨p, hp, rfl⟩ := hv
        obtain ⟨q, hq, rfl⟩ := hx
        rw [hp] at hq
        injection hq with hq
        subst hq
        exact p.2.1.keep (hkX _ _ _)
      · obtain ⟨hj, e⟩ := flat_at d' j u hu
        have := (hH' j (by rw [size_flatK]; exact hj)).1
        rw [Nat.zero_add] at this
        rw [add0, this, e]
        rfl))
  clear hs hr hk ho hkl hN hcell hfr hH hkX hcmp hR hd1 hd2 hcur hh hsz
  go_enter Tryd.func50, Tryd.ntmps50
  go_wp2_with fail
  refine HI.out.mono ?_
  rintro e w3 ⟨rfl, d', S, P, Q⟩
  have F := Lib.hid (FIN.out d' w3 S P Q)
  clear S P Q HI FIN
  go_wp2
  go_end0
  exact ⟨⟨_, rfl⟩, F.out⟩
end Go.Proofs.YtbkcclmhgnplcaaDoor
/- Group-by, as mathematics: cells put one by one among those that rise; runs of one key. -/
namespace Go.Proofs.YtbkcclmhgnplcaaDoor
open Go.RowKit
theorem wrap64_add (u v : Int) : wrap64 (wrap64 u + v) = wrap64 (u + v) := by unfold wrap64; omega
theorem zip_rcomm (f : Int → Int → Int) (h : ∀ x a b, f (f x a) b = f (f x b) a) : ∀ (x a b : List Int), List.zipWith f (List.zipWith f x a) b = List.zipWith f (List.zipWith f x b) a
  | [], _, _ => by simp
  | _ :: _, [], _ => by simp
  | _ :: _, _ :: _, [] => by simp
  | x :: xs, a :: ys, b :: bs => by simp [h x a b, zip_rcomm f h xs ys bs]
theorem zip_comm (f : Int → Int → Int) (h : ∀ a b, f a b = f b a) : ∀ (a b : List Int), List.zipWith f a b = List.zipWith f b a
  | [], _ => by simp
  | _ :: _, [] => by simp
  | a :: ys, b :: bs => by simp [h a b, zip_comm f h ys bs]
theorem join2_rcomm (x a b : Cel) : join2 (join2 x a) b = join2 (join2 x b) a := by
  unfold join2 addL minL maxL
  simp only [Cel.mk.injEq, true_and]
  refine ⟨?_, zip_rcomm _ (fun x a b => ?_) _ _ _, zip_rcomm _ (fun x a b => ?_) _ _ _, zip_rcomm _ (fun x a b => ?_) _ _ _⟩
  · rw [wrap64_add, wrap64_add, Int.add_right_comm]
  · rw [wrap64_add, wrap64_add, Int.add_right_comm]
  · omega
  · omega
theorem join2_comm {a b : Cel} (h : a.key = b.key) : join2 a b = join2 b a := by
  unfold join2 addL minL maxL
  simp only [Cel.mk.injEq]
  refine ⟨h, by rw [Int.add_comm], zip_comm _ (fun a b => by rw [Int.add_comm]) _ _, zip_comm _ (fun a b => by omega) _ _, zip_comm _ (fun a b => by omega) _ _⟩
/-- A cell put among others that rise by keys. -/
def putC : List Cel → Cel → List Cel
  | [], c => [c]
  | x :: l, c => if cmpL x.key c.key < 0 then x :: putC l c else if cmpL x.key c.key = 0 then join2 x c :: l else c :: x :: l
def grpR (l : List Cel) : List Cel := l.foldl putC []
theorem cmpL_lt_of {a b c : List Int} (h1 : cmpL a b < 0) (h2 : cmpL b c ≤ 0) : cmpL a c < 0 := by
  have h := cmpL_trans (Int.le_of_lt h1) h2
  rcases Int.lt_or_eq_of_le h with h | h
  · exact h
  · have e := cmpL_zero.1 h
    subst e
    have := cmpL_anti a b
    omega
theorem cmpL_lt_of' {a b c : List Int} (h1 : cmpL a b ≤ 0) (h2 : cmpL b c < 0) : cmpL a c < 0 := by
  have h := cmpL_trans h1 (Int.le_of_lt h2)
  rcases Int.lt_or_eq_of_le h with h | h
  · exact h
  · have e := cmpL_zero.1 h
    subst e
    have := cmpL_anti a b
    omega
theorem putC_comm (a b : Cel) : ∀ (l : List Cel), putC (putC l a) b = putC (putC l b) a
  | [] => by
    have h := cmpL_anti a.key b.key
    simp only [putC]
    rcases Int.lt_trichotomy (cmpL a.key b.key) 0 with c | c | c
    · rw [if_pos c, if_neg (by omega), if_neg (by omega)]
    · rw [if_neg (by omega), if_pos c, if_neg (by omega), if_pos (by omega), join2_comm (cmpL_zero.1 c)]
    · rw [if_neg (by omega), if_neg (by omega), if_pos (by omega)]
  | x :: l => by
    have h := cmpL_anti a.key b.key
    have ih := putC_comm a b l
    rcases Int.lt_trichotomy (cmpL x.key a.key) 0 with c | c | c
    · have e1 : putC (x :: l) a = x :: putC l a := by simp only [putC]; rw [if_pos c]
      rw [e1]
      rcases Int.lt_trichotomy (cmpL x.key b.key) 0 with d | d | d
      · have e2 : putC (x :: l) b = x :: putC l b := by simp only [putC]; rw [if_pos d]
        rw [e2]
        simp only [putC]
        rw [if_pos d, if_pos c, ih]
      · have e2 : putC (x :: l) b = join2 x b :: l := by simp only [putC]; rw [if_neg (by omega), if_pos d]
        rw [e2]
        simp only [putC]
        rw [if_neg (by omega), if_pos d, if_pos (show cmpL (join2 x b).key a.key < 0 from c)]
      · have e2 : putC (x :: l) b = b :: x :: l := by simp only [putC]; rw [if_neg (by omega), if_neg (by omega)]
        rw [e2]
        have hb : cmpL b.key a.key < 0 := cmpL_lt_of (by have := cmpL_anti x.key b.key; omega) (Int.le_of_lt c)
        simp only [putC]
        rw [if_neg (by omega), if_neg (by omega), if_pos hb, if_pos c]
    · have e1 : putC (x :: l) a = join2 x a :: l := by simp only [putC]; rw [if_neg (by omega), if_pos c]
      rw [e1]
      rcases Int.lt_trichotomy (cmpL x.key b.key) 0 with d | d | d
      · have e2 : putC (x :: l) b = x :: putC l b := by simp only [putC]; rw [if_pos d]
        rw [e2]
        simp only [putC]
        rw [if_pos (show cmpL (join2 x a).key b.key < 0 from d), if_neg (by omega), if_pos c]
      · have e2 : putC (x :: l) b = join2 x b :: l := by simp only [putC]; rw [if_neg (by omega), if_pos d]
        rw [e2]
        simp only [putC]
        rw [if_neg (show ¬ cmpL (join2 x a).key b.key < 0 from by show ¬ cmpL x.key b.key < 0; omega), if_pos (show cmpL (join2 x a).key b.key = 0 from d), if_neg (show ¬ cmpL (join2 x b).key a.key < 0 from by show ¬ cmpL x.key a.key < 0; omega), if_pos (show cmpL (join2 x b).key a.key = 0 from c), join2_rcomm]
      · have e2 : putC (x :: l) b = b :: x :: l := by simp only [putC]; rw [if_neg (by omega), if_neg (by omega)]
        rw [e2]
        have hb : cmpL b.key a.key < 0 := cmpL_lt_of (by have := cmpL_anti x.key b.key; omega) (Int.le_of_eq c)
        simp only [putC]
        rw [if_neg (show ¬ cmpL (join2 x a).key b.key < 0 from by show ¬ cmpL x.key b.key < 0; omega), if_neg (show ¬ cmpL (join2 x a).key b.key = 0 from by show ¬ cmpL x.key b.key = 0; omega), if_pos hb, if_neg (by omega), if_pos c]
    · have e1 : putC (x :: l) a = a :: x :: l := by simp only [putC]; rw [if_neg (by omega), if_neg (by omega)]
      have hax : cmpL a.key x.key < 0 := by have := cmpL_anti x.key a.key; omega
      rw [e1]
      rcases Int.lt_trichotomy (cmpL x.key b.key) 0 with d | d | d
      · have e2 : putC (x :: l) b = x :: putC l b := by simp only [putC]; rw [if_pos d]
        rw [e2]
        have hb : cmpL a.key b.key < 0 := cmpL_lt_of hax (Int.le_of_lt d)
        simp only [putC]
        rw [if_pos hb, if_pos d, if_neg (by omega), if_neg (by omega)]
      · have e2 : putC (x :: l) b = join2 x b :: l := by simp only [putC]; rw [if_neg (by omega), if_pos d]
        rw [e2]
        have hb : cmpL a.key b.key < 0 := cmpL_lt_of hax (Int.le_of_eq d)
        simp only [putC]
        rw [if_pos hb, if_neg (by omega), if_pos d, if_neg (show ¬ cmpL (join2 x b).key a.key < 0 from by show ¬ cmpL x.key a.key < 0; omega), if_neg (show ¬ cmpL (join2 x b).key a.key = 0 from by show ¬ cmpL x.key a.key = 0; omega)]
      · have e2 : putC (x :: l) b = b :: x :: l := by simp only [putC]; rw [if_neg (by omega), if_neg (by omega)]
        rw [e2]
        simp only [putC]
        rcases Int.lt_trichotomy (cmpL a.key b.key) 0 with f | f | f
        · rw [if_pos f, if_neg (by omega), if_neg (by omega), if_neg (by omega), if_neg (by omega)]
        · rw [if_neg (by omega), if_pos f, if_neg (by omega), if_pos (by omega), join2_comm (cmpL_zero.1 f)]
        · rw [if_neg (by omega), if_neg (by omega), if_pos (by omega), if_neg (by omega), if_neg (by omega)]
theorem grpR_perm {l l' : List Cel} (h : l.Perm l') : grpR l = grpR l' := by
  unfold grpR
  exact h.foldl_eq' (fun x _ y _ z => putC_comm x y z) _
theorem putC_keys (c : Cel) : ∀ (l : List Cel) (y : Cel), y ∈ putC l c → y.key = c.key ∨ ∃ z ∈ l, z.key = y.key
  | [], y, h => by simp only [putC, List.mem_singleton] at h; exact .inl (by rw [h])
  | x :: l, y, h => by
    simp only [putC] at h
    split at h
    · rcases List.mem_cons.1 h with rfl | h
      · exact .inr ⟨_, by simp, rfl⟩
      · rcases putC_keys c l y h with h | ⟨z, hz, e⟩
        · exact .inl h
        · exact .inr ⟨z, by simp [hz], e⟩
    · split at h
      · rcases List.mem_cons.1 h with rfl | h
        · exact .inr ⟨x, by simp, rfl⟩
        · exact .inr ⟨y, by simp [h], rfl⟩
      · rcases List.mem_cons.1 h with rfl | h
        · exact .inl rfl
        · exact .inr ⟨y, h, rfl⟩
theorem grp_keys : ∀ (l acc : List Cel) (y : Cel), y ∈ l.foldl putC acc → (∃ z ∈ acc, z.key = y.key) ∨ ∃ z ∈ l, z.key = y.key
  | [], acc, y, h => .inl ⟨y, h, rfl⟩
  | x :: l, acc, y, h => by
    rcases grp_keys l (putC acc x) y h with ⟨z, hz, e⟩ | ⟨z, hz, e⟩
    · rcases putC_keys x acc z hz with k | ⟨u, hu, k⟩
      · exact .inr ⟨x, by simp, by rw [← e, k]⟩
      · exact .inl ⟨u, hu, by rw [k, e]⟩
    · exact .inr ⟨z, by simp [hz], e⟩
theorem putC_end {c : Cel} : ∀ {l : List Cel}, (∀ y ∈ l, cmpL y.key c.key < 0) → putC l c = l ++ [c]
  | [], _ => rfl
  | x :: l, h => by
    simp only [putC]
    rw [if_pos (h x (by simp)), putC_end fun y hy => h y (by simp [hy])]
    rfl
theorem putC_last {c d : Cel} (e : d.key = c.key) : ∀ {l : List Cel}, (∀ y ∈ l, cmpL y.key c.key < 0) → putC (l ++ [d]) c = l ++ [join2 d c]
  | [], _ => by
    simp only [List.nil_append, putC]
    rw [e, cmpL_self, if_neg (by omega), if_pos rfl]
  | x :: l, h => by
    simp only [List.cons_append, putC]
    rw [if_pos (h x (by simp)), putC_last e fun y hy => h y (by simp [hy])]
theorem put_run {acc : List Cel} {key : List Int} (h : ∀ y ∈ acc, cmpL y.key key < 0) : ∀ (t : List Cel) (d : Cel), d.key = key → (∀ x ∈ t, x.key = key) → t.foldl putC (acc ++ [d]) = acc ++ [t.foldl join2 d]
  | [], d, _, _ => rfl
  | x :: t, d, hd, ht => by
    simp only [List.foldl_cons]
    have hx := ht x (by simp)
    rw [putC_last (by rw [hd, hx]) (by rw [hx]; exact h)]
    exact put_run h t (join2 d x) hd fun y hy => ht y (by simp [hy])
/-- Stretches of one key, one behind the other. -/
inductive Chain (L : List Cel) : List (Nat × Nat) → Nat → Prop
  | nil : Chain L [] 0
  | snoc {pre : List (Nat × Nat)} {i k : Nat} : Chain L pre i → 1 ≤ k → i + k ≤ L.length → (∀ j, j < k → ∀ x y, L[i]? = some x → L[i + j]? = some y → cmpL x.key y.key = 0) →
      (∀ x y, L[i]? = some x → L[i + k]? = some y → cmpL x.key y.key ≠ 0) → Chain L (pre ++ [(i, k)]) (i + k)
theorem SortedP.le {L : List Cel} (h : SortedP L) {i j : Nat} {x y : Cel} (hij : i ≤ j) (hx : L[i]? = some x) (hy : L[j]? = some y) : cmpL x.key y.key ≤ 0 := by
  rcases Nat.lt_or_eq_of_le hij with c | rfl
  · have := h i j x y c hx hy
    have := cmpL_anti x.key y.key
    omega
  · rw [hx] at hy
    injection hy with hy
    rw [hy, cmpL_self]
    exact Int.le_refl _
theorem Chain.less {L : List Cel} (hs : SortedP L) {pre : List (Nat × Nat)} {i : Nat} (h : Chain L pre i) {j : Nat} {x y : Cel} (hj : j < i) (hx : L[j]? = some x) (hy : L[i]? = some y) : cmpL x.key y.key < 0 := by
  cases h with
  | nil => omega
  | @snoc pre i k h1 hk hl he hn =>
    obtain ⟨z, hz⟩ : ∃ z, L[i]? = some z := ⟨_, List.getElem?_eq_getElem (by omega)⟩
    have hzy := hs.le (show i ≤ i + k by omega) hz hy
    have hne := hn z y hz hy
    rcases Nat.lt_or_ge j i with c | c
    · exact cmpL_lt_of' (hs.le (Nat.le_of_lt c) hx hz) (by omega)
    · have := he (j - i) (by omega) z x hz (by rw [show i + (j - i) = j by omega]; exact hx)
      rw [← cmpL_zero.1 this]
      omega
/-- The cells of the stretches, joined: the group-by of what they cover. -/
theorem Chain.group {L : List Cel} (hs : SortedP L) {pre : List (Nat × Nat)} {i : Nat} (h : Chain L pre i) : pre.map (fun s => joinAll ((L.drop s.1).take s.2)) = grpR (L.take i) := by
  induction h with
  | nil => rfl
  | @snoc pre i k h1 hk hl he hn ih =>
    obtain ⟨z, hz⟩ : ∃ z, L[i]? = some z := ⟨_, List.getElem?_eq_getElem (by omega)⟩
    rw [List.map_append, ih]
    have e1 : L.take (i + k) = L.take i ++ (L.drop i).take k := by rw [List.take_add]
    have e2 : (L.drop i).take k = z :: (L.drop (i + 1)).take (k - 1) := by
      rw [List.drop_eq_getElem_cons (by omega : i < L.length)]
      obtain ⟨k, rfl⟩ : ∃ q, k = q + 1 := ⟨k - 1, by omega⟩
      rw [List.take_succ_cons]
      congr 1
      exact (List.getElem?_eq_some_iff.1 hz).2
    have hlt : ∀ y ∈ grpR (L.take i), cmpL y.key z.key < 0 := fun y hy => by
      rcases grp_keys (L.take i) [] y hy with ⟨u, hu, _⟩ | ⟨u, hu, e⟩
      · cases hu
      · obtain ⟨j, hj⟩ := List.getElem?_of_mem hu
        rw [List.getElem?_take] at hj
        split at hj
        · rename_i hji
          rw [← e]
          exact h1.less hs hji hj hz
        · cases hj
    have e3 : grpR (L.take (i + k)) = ((L.drop i).take k).foldl putC (grpR (L.take i)) := by
      unfold grpR
      rw [e1, List.foldl_append]
    rw [e3, e2, List.foldl_cons, putC_end hlt]
    rw [put_run (key := z.key) hlt _ z rfl fun x hx => ?_]
    · simp only [List.map_cons, List.map_nil]
      rw [e2]
      rfl
    · obtain ⟨j, hj⟩ := List.getElem?_of_mem hx
      rw [List.getElem?_take] at hj
      split at hj
      · rename_i hjk
        rw [List.getElem?_drop] at hj
        have := he (j + 1) (by omega) z x hz (by rw [show i + (j + 1) = i + 1 + j by omega]; exact hj)
        exact (cmpL_zero.1 this).symm
      · cases hj
end Go.Proofs.YtbkcclmhgnplcaaDoor
/- Package cell: runs of one key, told one by one. -/
namespace Go.Proofs.YtbkcclmhgnplcaaDoor
open Go.RowKit Go.Shelf
attribute [local go_sem] Oper.semAt_some
/-- A stretch within N. -/
abbrev Seg (N : Nat) := { p : Nat × Nat // 1 ≤ p.2 ∧ p.1 + p.2 ≤ N }
theorem Chain.len {L : List Cel} {pre : List (Nat × Nat)} {i : Nat} (h : Chain L pre i) : pre.length ≤ i := by
  induction h with
  | nil => exact Nat.zero_le _
  | snoc h1 hk _ _ _ ih => simp; omega
theorem Chain.to {L : List Cel} {p : List (Nat × Nat)} {a b : Nat} (h : Chain L p a) (e : a = b) : Chain L p b := e ▸ h
set_option maxRecDepth 100000 in
set_option maxHeartbeats 8000000 in
theorem alikeN_in (n : Nat) (hn : 1 ≤ n) (l Bs n₀ : Nat) (ad : Addr) (c N : Nat) (L : List Cel) (hN : N = L.length) (hN1 : N ≤ 1000000) (hc : N ≤ c) (hkl : ∀ x ∈ L, x.key.length ≤ 1000000) (J Jx : List (Seg N) → World → Prop)
    (W : World) (hA : AbidesFrom W.heap.size J)
    (hY : ∀ pre x W1, J pre W1 → pre.length < N → YieldAt Fence.wide (n - 1) Tryd.prog l #[.slice (some (ad.add (x.1.1 * 5))) x.1.2 (c - x.1.1)] W1 fun e W' =>
      (e = .returned (.bool true) ∧ J (pre ++ [x]) W' ∧ Below n₀ W1 W') ∨ (e = .returned (.bool false) ∧ Jx (pre ++ [x]) W'))
    (hBs : W.cell? ⟨Bs, 0, none⟩ = some (.slice (some ad) N c)) (hl : ∀ W', Below n₀ W W' → CellsR W' ad L) (h0 : J [] W) :
    CallsIn Fence.wide n Tryd.prog 79 #[.func (.yield l) #[] #[], .pointer (some ⟨Bs, 0, none⟩)] W fun e W' => (∃ v, e = .returned v) ∧
      ((∃ ys : List (Seg N), Chain L (ys.map (·.1)) N ∧ J ys W') ∨ (∃ pre : List (Seg N), True ∧ Jx pre W')) := by
  have HN := Lib.hid hN
  have Hl := Lib.hid hl
  have Hkey := Lib.hid hkl
  clear hN hl hkl
  refine callsIn_of_wp Tryd.func79 rfl trivial ?_ rfl
  simp only [Tryd.ntmps79, List.size_toArray, List.length_cons, List.length_nil, Nat.reduceAdd, Nat.reduceSub, Array.replicate_succ, Array.replicate_zero, List.push_toArray, List.append_toArray, List.nil_append, List.cons_append]
  gi_wp2
  gi_loopw [3] (fun p wr => (∃ (pre : List (Seg N)) (i : Nat) (A : Addr) (M C : Nat), p = .slice (some A) M C ∧ Hid (A = ad.add (i * 5)) ∧ Hid (M + i = N) ∧ Hid (C + i = c) ∧ 0 < M ∧ M ≤ 1000000 ∧ M ≤ C ∧ Hid (Chain L (pre.map (·.1)) i) ∧ J pre wr ∧ Below n₀ W wr) ∨
      (∃ (pre : List (Seg N)) (P : Option Addr) (d : Nat), p = .slice P 0 d ∧ Hid (Chain L (pre.map (·.1)) N) ∧ J pre wr)) (fun p _ => lenOf p)
  case atStart =>
    by_cases h : N = 0
    · have e : Chain L (([] : List (Seg N)).map (·.1)) N := by rw [h]; exact Chain.nil
      exact .inr ⟨[], some ad, c, by rw [h], Lib.hid e, h0⟩
    · exact .inl ⟨[], 0, ad, N, c, rfl, Lib.hid (by simp [Addr.add]), Lib.hid rfl, Lib.hid rfl, by omega, hN1, hc, Lib.hid Chain.nil, h0, Below.refl _ _⟩
  case round =>
    rcases hrel with ⟨pre, i, A, M, C, rfl, HA, HM, HC, hM0, hM1, hMC, HCh, hJ0, hB0⟩ | ⟨pre, P, d, rfl, HCh, hJ⟩
    · have d1 : decide ((0 : Int) < (M : Int)) = true := decide_eq_true (by omega)
      gi_wp2
      gi_loopw [4] (fun v W' => ∃ k : Nat, v = .int .i64 k ∧ 1 ≤ k ∧ k ≤ M ∧ J pre W' ∧ Below n₀ W W' ∧ Hid (∀ j, j < k → ∀ x y, L[i]? = some x → L[i + j]? = some y → cmpL x.key y.key = 0)) (fun v _ => M - (intOf v).toNat)
      case atStart => exact ⟨1, rfl, by omega, by omega, hJ0, hB0, Lib.hid fun j hj x y hx hy => by
        have ej : j = 0 := by omega
        rw [ej, Nat.add_zero, hx] at hy
        injection hy with hy
        rw [hy, cmpL_self]⟩
      case round =>
        clear hJ0 hB0
        obtain ⟨k, rfl, hk1, hk2, hJ, hB, HE⟩ := hrel
        rename World => W1
        obtain ⟨x, hx⟩ : ∃ x, L[i]? = some x := ⟨_, List.getElem?_eq_getElem (by have := HN.out; have := HM.out; omega)⟩
        have hx0 := Hl.out W1 hB i x hx
        rw [← HA.out] at hx0
        have hkx := Hkey.out x (List.mem_of_getElem? hx)
        obtain ⟨vk, vs, vn, vm, a0, -, -, -, -, hcx, -⟩ := hx0
        obtain ⟨Pk, ck, f1, -⟩ := hcx.key
        subst f1
        have Hx := Lib.hid hcx.key
        have HX := Lib.hid hx
        clear hcx hx
        have hJd : J pre W1.drew := hA _ _ _ _ hJ (grown_drew W1) (fun r e => by cases e)
        have hBd := below_drewN hB 1
        change Below n₀ W W1.drew at hBd
        have HJd := Lib.hid hJd
        have HBd := Lib.hid hBd
        by_cases hlt : k < M
        · obtain ⟨y, hy⟩ : ∃ y, L[i + k]? = some y := ⟨_, List.getElem?_eq_getElem (by have := HN.out; have := HM.out; omega)⟩
          have hy0 := Hl.out W1 hB (i + k) y hy
          rw [show ad.add ((i + k) * 5) = A.add (k * 5) from by rw [HA.out, add_of_add, Nat.add_mul]] at hy0
          have hky := Hkey.out y (List.mem_of_getElem? hy)
          obtain ⟨uk, us, un, um, b0, -, -, -, -, hcy, -⟩ := hy0
          obtain ⟨Qk, dk, f2, -⟩ := hcy.key
          subst f2
          have Hy := Lib.hid hcy.key
          have HY2 := Lib.hid hy
          clear hcy hy
          have HS : Hid (W1.drew.cell? A = some (.slice Pk x.key.length ck) ∧ W1.drew.cell? (A.add (k * 5)) = some (.slice Qk y.key.length dk)) := Lib.hid ⟨a0, b0⟩
          have d0 : decide (k < M) = true := by simp; omega
          have i0 : (0 : Int) ≤ (k : Int) := by omega
          have i1 : (k : Int) < (M : Int) := by omega
          have i2 : (0 : Int) < (M : Int) := by omega
          have i3 : 0 < M := by omega
          clear hB hBd hJ hJd h0 a0 b0
          by_cases hq : cmpL x.key y.key = 0
          · have d2 : (cmpL x.key y.key == 0) = true := by simp [hq]
            have HQ := Lib.hid hq
            clear hq
            gi_wp2
            refine region_I (S := fun W' => W'.cell? A = some (.slice Pk x.key.length ck) ∧ W'.cell? (A.add (k * 5)) = some (.slice Qk y.key.length dk)) (by kernel_rfl) HS.out (fun hHeld => ?_)
            refine anyI_take (i := 0) (v := ?vb0) (by kernel_rfl) rfl (by kernel_rfl) (by kernel_rfl) (by kernel_rfl) (fun _ _ _ h => h) (fun _ => rfl) (Or.inl ⟨by rfl, ?yb0⟩) hHeld ?rb0
            case yb0 => (intro W hW; obtain ⟨h1, h2⟩ := hW; go_simp; first | done | with_reducible rfl)
            try simp only [List.getElem_toArray, List.getElem_cons_zero, Act.put, List.setIfInBounds_toArray, List.set_cons_zero, List.set_cons_succ]
            refine anyI_take (i := 1) (v := ?vb1) (by kernel_rfl) rfl (by kernel_rfl) (by kernel_rfl) (by kernel_rfl) (fun _ _ _ h => h) (fun _ => rfl) (Or.inl ⟨by rfl, ?yb1⟩) hHeld ?rb1
            case yb1 => (intro W hW; obtain ⟨h1, h2⟩ := hW; go_simp; first | done | with_reducible rfl)
            try simp only [List.getElem_toArray, List.getElem_cons_succ, List.getElem_cons_zero, Act.put, List.setIfInBounds_toArray, List.set_cons_zero, List.set_cons_succ]
            refine anyI_take (i := 2) (v := ?vb2) (by kernel_rfl) rfl (by kernel_rfl) (by kernel_rfl) (by kernel_rfl) (fun _ _ _ h => h) (fun _ => rfl) (Or.inl ⟨by rfl, ?yb2⟩) hHeld ?rb2
            case yb2 => (intro W hW; obtain ⟨h1, h2⟩ := hW; go_simp; first | done | with_reducible rfl)
            try simp only [List.getElem_toArray, List.getElem_cons_succ, List.getElem_cons_zero, Act.put, List.setIfInBounds_toArray, List.set_cons_zero, List.set_cons_succ]
            refine anyI_take (i := 3) (v := ?vb3) (by kernel_rfl) rfl (by kernel_rfl) (by kernel_rfl) (by kernel_rfl) (fun _ _ _ h => h) (fun _ => rfl) (Or.inl ⟨by rfl, ?yb3⟩) hHeld ?rb3
            case yb3 => (intro W hW; obtain ⟨h1, h2⟩ := hW; go_simp; first | done | with_reducible rfl)
            try simp only [List.getElem_toArray, List.getElem_cons_succ, List.getElem_cons_zero, Act.put, List.setIfInBounds_toArray, List.set_cons_zero, List.set_cons_succ]
            refine anyI_take (i := 4) (v := ?vb4) (by kernel_rfl) rfl (by kernel_rfl) (by kernel_rfl) (by kernel_rfl) (fun _ _ _ h => h) (fun _ => rfl) (Or.inl ⟨by rfl, ?yb4⟩) hHeld ?rb4
            case yb4 => (intro W hW; obtain ⟨h1, h2⟩ := hW; go_simp; first | done | with_reducible rfl)
            try simp only [List.getElem_toArray, List.getElem_cons_succ, List.getElem_cons_zero, Act.put, List.setIfInBounds_toArray, List.set_cons_zero, List.set_cons_succ]
            refine anyI_take (i := 5) (v := ?vb5) (by kernel_rfl) rfl (by kernel_rfl) (by kernel_rfl) (by kernel_rfl) (fun _ _ _ h => h) (fun _ => rfl) (Or.inl ⟨by rfl, ?yb5⟩) hHeld ?rb5
            case yb5 => (intro W hW; obtain ⟨h1, h2⟩ := hW; go_simp; first | done | with_reducible rfl)
            try simp only [List.getElem_toArray, List.getElem_cons_succ, List.getElem_cons_zero, Act.put, List.setIfInBounds_toArray, List.set_cons_zero, List.set_cons_succ]
            refine anyI_take (i := 6) (v := ?vb6) (by kernel_rfl) rfl (by kernel_rfl) (by kernel_rfl) (by kernel_rfl) (fun _ _ _ h => h) (fun _ => rfl) (Or.inl ⟨by rfl, ?yb6⟩) hHeld ?rb6
            case yb6 => (intro W hW; obtain ⟨h1, h2⟩ := hW; go_simp; first | done | with_reducible rfl)
            try simp only [List.getElem_toArray, List.getElem_cons_succ, List.getElem_cons_zero, Act.put, List.setIfInBounds_toArray, List.set_cons_zero, List.set_cons_succ]
            refine anyI_take (i := 7) (v := ?vb7) (by kernel_rfl) rfl (by kernel_rfl) (by kernel_rfl) (by kernel_rfl) (fun _ _ _ h => h) (fun _ => rfl) (Or.inl ⟨by rfl, ?yb7⟩) hHeld ?rb7
            case yb7 => (intro W hW; obtain ⟨h1, h2⟩ := hW; go_simp; first | done | with_reducible rfl)
            try simp only [List.getElem_toArray, List.getElem_cons_succ, List.getElem_cons_zero, Act.put, List.setIfInBounds_toArray, List.set_cons_zero, List.set_cons_succ]
            refine anyI_take (i := 8) (v := ?vb8) (by kernel_rfl) rfl (by kernel_rfl) (by kernel_rfl) (by kernel_rfl) (fun _ _ _ h => h) (fun _ => rfl) (Or.inl ⟨by rfl, ?yb8⟩) hHeld ?rb8
            case yb8 => (intro W hW; obtain ⟨h1, h2⟩ := hW; go_simp; first | done | with_reducible rfl)
            try simp only [List.getElem_toArray, List.getElem_cons_succ, List.getElem_cons_zero, Act.put, List.setIfInBounds_toArray, List.set_cons_zero, List.set_cons_succ]
            refine anyI_take (i := 9) (v := ?vb9) (by kernel_rfl) rfl (by kernel_rfl) (by kernel_rfl) (by kernel_rfl) (fun _ _ _ h => h) (fun _ => rfl) (Or.inl ⟨by rfl, ?yb9⟩) hHeld ?rb9
            case yb9 => (intro W hW; obtain ⟨h1, h2⟩ := hW; go_simp; first | done | with_reducible rfl)
            try simp only [List.getElem_toArray, List.getElem_cons_succ, List.getElem_cons_zero, Act.put, List.setIfInBounds_toArray, List.set_cons_zero, List.set_cons_succ]
            refine anyI_take (i := 10) (v := ?vb10) (by kernel_rfl) rfl (by kernel_rfl) (by kernel_rfl) (by kernel_rfl) (fun _ _ _ h => h) (fun _ => rfl) (Or.inl ⟨by rfl, ?yb10⟩) hHeld ?rb10
            case yb10 => (intro W hW; obtain ⟨h1, h2⟩ := hW; go_simp; first | done | with_reducible rfl)
            try simp only [List.getElem_toArray, List.getElem_cons_succ, List.getElem_cons_zero, Act.put, List.setIfInBounds_toArray, List.set_cons_zero, List.set_cons_succ]
            refine anyI_take (i := 11) (v := ?vb11) (by kernel_rfl) rfl (by kernel_rfl) (by kernel_rfl) (by kernel_rfl) (fun _ _ _ h => h) (fun _ => rfl) (Or.inl ⟨by rfl, ?yb11⟩) hHeld ?rb11
            case yb11 => (intro W hW; obtain ⟨h1, h2⟩ := hW; go_simp; first | done | with_reducible rfl)
            try simp only [List.getElem_toArray, List.getElem_cons_succ, List.getElem_cons_zero, Act.put, List.setIfInBounds_toArray, List.set_cons_zero, List.set_cons_succ]
            refine anyI_take (i := 12) (v := ?vb12) (by kernel_rfl) rfl (by kernel_rfl) (by kernel_rfl) (by kernel_rfl) (fun _ _ _ h => h) (fun _ => rfl) (Or.inl ⟨by rfl, ?yb12⟩) hHeld ?rb12
            case yb12 => (intro W hW; obtain ⟨h1, h2⟩ := hW; go_simp; first | done | with_reducible rfl)
            try simp only [List.getElem_toArray, List.getElem_cons_succ, List.getElem_cons_zero, Act.put, List.setIfInBounds_toArray, List.set_cons_zero, List.set_cons_succ]
            refine anyI_take (i := 13) (v := ?vb13) (by kernel_rfl) rfl (by kernel_rfl) (by kernel_rfl) (by kernel_rfl) (fun _ _ _ h => h) (fun _ => rfl) (Or.inl ⟨by rfl, ?yb13⟩) hHeld ?rb13
            case yb13 => (intro W hW; obtain ⟨h1, h2⟩ := hW; go_simp; first | done | with_reducible rfl)
            try simp only [List.getElem_toArray, List.getElem_cons_succ, List.getElem_cons_zero, Act.put, List.setIfInBounds_toArray, List.set_cons_zero, List.set_cons_succ]
            refine anyI_ready (rs := [14]) (by kernel_rfl) (by simp) ?_
            refine AllI.cons (by kernel_rfl) rfl (by rfl) (fun K hK => ?_) (AllI.nil)
            refine ⟨fun _ _ => trivial, ?_⟩
            go_simp
            refine (callsIn_wide.2 (less_any _ _ x.key y.key W1.drew (Hx.out.keep ((Keeps.refl W1).drewN 1)) (Hy.out.keep ((Keeps.refl W1).drewN 1)) hkx hky)).mono ?_
            rintro e w' ⟨rfl, rfl⟩
            dsimp only
            refine hK.out _ _ (HS.out) (fun hHeld => ?_)
            clear hK K
            try simp only [List.getElem_toArray, List.getElem_cons_succ, List.getElem_cons_zero, Act.put, List.setIfInBounds_toArray, List.set_cons_zero, List.set_cons_succ]
            refine anyI_take (i := 15) (v := ?vb15) (by kernel_rfl) rfl (by kernel_rfl) (by kernel_rfl) (by kernel_rfl) (fun _ _ _ h => h) (fun _ => rfl) (Or.inl ⟨by rfl, ?yb15⟩) hHeld ?rb15
            case yb15 => (intro W hW; go_simp; first | done | with_reducible rfl)
            try simp only [List.getElem_toArray, List.getElem_cons_succ, List.getElem_cons_zero, Act.put, List.setIfInBounds_toArray, List.set_cons_zero, List.set_cons_succ]
            refine anyI_take (i := 16) (v := ?vb16) (by kernel_rfl) rfl (by kernel_rfl) (by kernel_rfl) (by kernel_rfl) (fun _ _ _ h => h) (fun _ => rfl) (Or.inl ⟨by rfl, ?yb16⟩) hHeld ?rb16
            case yb16 => (intro W hW; go_simp; first | done | with_reducible rfl)
            try simp only [List.getElem_toArray, List.getElem_cons_succ, List.getElem_cons_zero, Act.put, List.setIfInBounds_toArray, List.set_cons_zero, List.set_cons_succ]
            refine anyI_done (by kernel_rfl) ?_ _
            gi_wp2
            go_roundw
            case rel => exact ⟨k + 1, by go_num, by omega, by omega, HJd.out, HBd.out, Lib.hid fun j hj x' y' hx' hy' => by
              rcases Nat.lt_or_ge j k with c1 | c1
              · exact HE.out j c1 x' y' hx' hy'
              · obtain rfl : j = k := by omega
                rw [HX.out] at hx'
                rw [HY2.out] at hy'
                injection hx' with hx'
                injection hy' with hy'
                rw [← hx', ← hy']
                exact HQ.out⟩
            case measure => simp [intOf]; omega
          · have d2 : (cmpL x.key y.key == 0) = false := by simp [hq]
            have hN2 : Chain L ((pre ++ [(⟨(i, k), hk1, by have := HM.out; omega⟩ : Seg N)]).map (·.1)) (i + k) := by
              rw [List.map_append]
              refine Chain.snoc HCh.out hk1 (by have := HM.out; have := HN.out; omega) HE.out fun x' y' hx' hy' => ?_
              rw [HX.out] at hx'
              rw [HY2.out] at hy'
              injection hx' with hx'
              injection hy' with hy'
              rw [← hx', ← hy']
              exact hq
            have HCh2 := Lib.hid hN2
            clear hq hN2
            gi_wp2
            refine region_I (S := fun W' => W'.cell? A = some (.slice Pk x.key.length ck) ∧ W'.cell? (A.add (k * 5)) = some (.slice Qk y.key.length dk)) (by kernel_rfl) HS.out (fun hHeld => ?_)
            refine anyI_take (i := 0) (v := ?vd0) (by kernel_rfl) rfl (by kernel_rfl) (by kernel_rfl) (by kernel_rfl) (fun _ _ _ h => h) (fun _ => rfl) (Or.inl ⟨by rfl, ?yd0⟩) hHeld ?rd0
            case yd0 => (intro W hW; obtain ⟨h1, h2⟩ := hW; go_simp; first | done | with_reducible rfl)
            try simp only [List.getElem_toArray, List.getElem_cons_zero, Act.put, List.setIfInBounds_toArray, List.set_cons_zero, List.set_cons_succ]
            refine anyI_take (i := 1) (v := ?vd1) (by kernel_rfl) rfl (by kernel_rfl) (by kernel_rfl) (by kernel_rfl) (fun _ _ _ h => h) (fun _ => rfl) (Or.inl ⟨by rfl, ?yd1⟩) hHeld ?rd1
            case yd1 => (intro W hW; obtain ⟨h1, h2⟩ := hW; go_simp; first | done | with_reducible rfl)
            try simp only [List.getElem_toArray, List.getElem_cons_succ, List.getElem_cons_zero, Act.put, List.setIfInBounds_toArray, List.set_cons_zero, List.set_cons_succ]
            refine anyI_take (i := 2) (v := ?vd2) (by kernel_rfl) rfl (by kernel_rfl) (by kernel_rfl) (by kernel_rfl) (fun _ _ _ h => h) (fun _ => rfl) (Or.inl ⟨by rfl, ?yd2⟩) hHeld ?rd2
            case yd2 => (intro W hW; obtain ⟨h1, h2⟩ := hW; go_simp; first | done | with_reducible rfl)
            try simp only [List.getElem_toArray, List.getElem_cons_succ, List.getElem_cons_zero, Act.put, List.setIfInBounds_toArray, List.set_cons_zero, List.set_cons_succ]
            refine anyI_take (i := 3) (v := ?vd3) (by kernel_rfl) rfl (by kernel_rfl) (by kernel_rfl) (by kernel_rfl) (fun _ _ _ h => h) (fun _ => rfl) (Or.inl ⟨by rfl, ?yd3⟩) hHeld ?rd3
            case yd3 => (intro W hW; obtain ⟨h1, h2⟩ := hW; go_simp; first | done | with_reducible rfl)
            try simp only [List.getElem_toArray, List.getElem_cons_succ, List.getElem_cons_zero, Act.put, List.setIfInBounds_toArray, List.set_cons_zero, List.set_cons_succ]
            refine anyI_take (i := 4) (v := ?vd4) (by kernel_rfl) rfl (by kernel_rfl) (by kernel_rfl) (by kernel_rfl) (fun _ _ _ h => h) (fun _ => rfl) (Or.inl ⟨by rfl, ?yd4⟩) hHeld ?rd4
            case yd4 => (intro W hW; obtain ⟨h1, h2⟩ := hW; go_simp; first | done | with_reducible rfl)
            try simp only [List.getElem_toArray, List.getElem_cons_succ, List.getElem_cons_zero, Act.put, List.setIfInBounds_toArray, List.set_cons_zero, List.set_cons_succ]
            refine anyI_take (i := 5) (v := ?vd5) (by kernel_rfl) rfl (by kernel_rfl) (by kernel_rfl) (by kernel_rfl) (fun _ _ _ h => h) (fun _ => rfl) (Or.inl ⟨by rfl, ?yd5⟩) hHeld ?rd5
            case yd5 => (intro W hW; obtain ⟨h1, h2⟩ := hW; go_simp; first | done | with_reducible rfl)
            try simp only [List.getElem_toArray, List.getElem_cons_succ, List.getElem_cons_zero, Act.put, List.setIfInBounds_toArray, List.set_cons_zero, List.set_cons_succ]
            refine anyI_take (i := 6) (v := ?vd6) (by kernel_rfl) rfl (by kernel_rfl) (by kernel_rfl) (by kernel_rfl) (fun _ _ _ h => h) (fun _ => rfl) (Or.inl ⟨by rfl, ?yd6⟩) hHeld ?rd6
            case yd6 => (intro W hW; obtain ⟨h1, h2⟩ := hW; go_simp; first | done | with_reducible rfl)
            try simp only [List.getElem_toArray, List.getElem_cons_succ, List.getElem_cons_zero, Act.put, List.setIfInBounds_toArray, List.set_cons_zero, List.set_cons_succ]
            refine anyI_take (i := 7) (v := ?vd7) (by kernel_rfl) rfl (by kernel_rfl) (by kernel_rfl) (by kernel_rfl) (fun _ _ _ h => h) (fun _ => rfl) (Or.inl ⟨by rfl, ?yd7⟩) hHeld ?rd7
            case yd7 => (intro W hW; obtain ⟨h1, h2⟩ := hW; go_simp; first | done | with_reducible rfl)
            try simp only [List.getElem_toArray, List.getElem_cons_succ, List.getElem_cons_zero, Act.put, List.setIfInBounds_toArray, List.set_cons_zero, List.set_cons_succ]
            refine anyI_take (i := 8) (v := ?vd8) (by kernel_rfl) rfl (by kernel_rfl) (by kernel_rfl) (by kernel_rfl) (fun _ _ _ h => h) (fun _ => rfl) (Or.inl ⟨by rfl, ?yd8⟩) hHeld ?rd8
            case yd8 => (intro W hW; obtain ⟨h1, h2⟩ := hW; go_simp; first | done | with_reducible rfl)
            try simp only [List.getElem_toArray, List.getElem_cons_succ, List.getElem_cons_zero, Act.put, List.setIfInBounds_toArray, List.set_cons_zero, List.set_cons_succ]
            refine anyI_take (i := 9) (v := ?vd9) (by kernel_rfl) rfl (by kernel_rfl) (by kernel_rfl) (by kernel_rfl) (fun _ _ _ h => h) (fun _ => rfl) (Or.inl ⟨by rfl, ?yd9⟩) hHeld ?rd9
            case yd9 => (intro W hW; obtain ⟨h1, h2⟩ := hW; go_simp; first | done | with_reducible rfl)
            try simp only [List.getElem_toArray, List.getElem_cons_succ, List.getElem_cons_zero, Act.put, List.setIfInBounds_toArray, List.set_cons_zero, List.set_cons_succ]
            refine anyI_take (i := 10) (v := ?vd10) (by kernel_rfl) rfl (by kernel_rfl) (by kernel_rfl) (by kernel_rfl) (fun _ _ _ h => h) (fun _ => rfl) (Or.inl ⟨by rfl, ?yd10⟩) hHeld ?rd10
            case yd10 => (intro W hW; obtain ⟨h1, h2⟩ := hW; go_simp; first | done | with_reducible rfl)
            try simp only [List.getElem_toArray, List.getElem_cons_succ, List.getElem_cons_zero, Act.put, List.setIfInBounds_toArray, List.set_cons_zero, List.set_cons_succ]
            refine anyI_take (i := 11) (v := ?vd11) (by kernel_rfl) rfl (by kernel_rfl) (by kernel_rfl) (by kernel_rfl) (fun _ _ _ h => h) (fun _ => rfl) (Or.inl ⟨by rfl, ?yd11⟩) hHeld ?rd11
            case yd11 => (intro W hW; obtain ⟨h1, h2⟩ := hW; go_simp; first | done | with_reducible rfl)
            try simp only [List.getElem_toArray, List.getElem_cons_succ, List.getElem_cons_zero, Act.put, List.setIfInBounds_toArray, List.set_cons_zero, List.set_cons_succ]
            refine anyI_take (i := 12) (v := ?vd12) (by kernel_rfl) rfl (by kernel_rfl) (by kernel_rfl) (by kernel_rfl) (fun _ _ _ h => h) (fun _ => rfl) (Or.inl ⟨by rfl, ?yd12⟩) hHeld ?rd12
            case yd12 => (intro W hW; obtain ⟨h1, h2⟩ := hW; go_simp; first | done | with_reducible rfl)
            try simp only [List.getElem_toArray, List.getElem_cons_succ, List.getElem_cons_zero, Act.put, List.setIfInBounds_toArray, List.set_cons_zero, List.set_cons_succ]
            refine anyI_take (i := 13) (v := ?vd13) (by kernel_rfl) rfl (by kernel_rfl) (by kernel_rfl) (by kernel_rfl) (fun _ _ _ h => h) (fun _ => rfl) (Or.inl ⟨by rfl, ?yd13⟩) hHeld ?rd13
            case yd13 => (intro W hW; obtain ⟨h1, h2⟩ := hW; go_simp; first | done | with_reducible rfl)
            try simp only [List.getElem_toArray, List.getElem_cons_succ, List.getElem_cons_zero, Act.put, List.setIfInBounds_toArray, List.set_cons_zero, List.set_cons_succ]
            refine anyI_ready (rs := [14]) (by kernel_rfl) (by simp) ?_
            refine AllI.cons (by kernel_rfl) rfl (by rfl) (fun K hK => ?_) (AllI.nil)
            refine ⟨fun _ _ => trivial, ?_⟩
            go_simp
            refine (callsIn_wide.2 (less_any _ _ x.key y.key W1.drew (Hx.out.keep ((Keeps.refl W1).drewN 1)) (Hy.out.keep ((Keeps.refl W1).drewN 1)) hkx hky)).mono ?_
            rintro e w' ⟨rfl, rfl⟩
            dsimp only
            refine hK.out _ _ (HS.out) (fun hHeld => ?_)
            clear hK K
            try simp only [List.getElem_toArray, List.getElem_cons_succ, List.getElem_cons_zero, Act.put, List.setIfInBounds_toArray, List.set_cons_zero, List.set_cons_succ]
            refine anyI_take (i := 15) (v := ?vd15) (by kernel_rfl) rfl (by kernel_rfl) (by kernel_rfl) (by kernel_rfl) (fun _ _ _ h => h) (fun _ => rfl) (Or.inl ⟨by rfl, ?yd15⟩) hHeld ?rd15
            case yd15 => (intro W hW; go_simp; first | done | with_reducible rfl)
            try simp only [List.getElem_toArray, List.getElem_cons_succ, List.getElem_cons_zero, Act.put, List.setIfInBounds_toArray, List.set_cons_zero, List.set_cons_succ]
            refine anyI_take (i := 16) (v := ?vd16) (by kernel_rfl) rfl (by kernel_rfl) (by kernel_rfl) (by kernel_rfl) (fun _ _ _ h => h) (fun _ => rfl) (Or.inl ⟨by rfl, ?yd16⟩) hHeld ?rd16
            case yd16 => (intro W hW; go_simp; first | done | with_reducible rfl)
            try simp only [List.getElem_toArray, List.getElem_cons_succ, List.getElem_cons_zero, Act.put, List.setIfInBounds_toArray, List.set_cons_zero, List.set_cons_succ]
            refine anyI_done (by kernel_rfl) ?_ _
            obtain ⟨fn, tmps, assign, body, hy, hR⟩ := hY pre ⟨(i, k), hk1, by have := HM.out; omega⟩ W1.drew HJd.out (by have h := HCh.out.len; have := HM.out; simp at h; omega)
            dsimp only at hy
            rw [← HA.out, show c - i = C from by have := HC.out; omega] at hy
            have i4 : ((k : Int)) ≤ (C : Int) := by omega
            have i5 : ((k : Int)) ≤ (M : Int) := by omega
            have i6 : ((M : Int)) ≤ (C : Int) := by omega
            have i7 : (0 : Int) ≤ (k : Int) := by omega
            gi_wp2
            refine hR.mono ?_
            rintro e W3 (⟨rfl, hJ3, hB3⟩ | ⟨rfl, hJx3⟩)
            · have HJ3 := Lib.hid hJ3
              have HB3 := Lib.hid (HBd.out.trans hB3)
              clear hJ3 hy hB3
              gi_wp2
              exact ⟨.inl ⟨pre ++ [⟨(i, k), hk1, by have := HM.out; omega⟩], i + k, A.add (k * 5), M - k, C - k, rfl, Lib.hid (by rw [HA.out, add_of_add, Nat.add_mul]), Lib.hid (by have := HM.out; omega), Lib.hid (by have := HC.out; omega), by omega, by omega, by omega, HCh2, HJ3.out, HB3.out⟩, by simp [lenOf]; omega⟩
            · gi_wp2
              refine bodyPost_ret (results_none rfl _ _ _) rfl ?_
              exact ⟨⟨_, rfl⟩, .inr ⟨_, trivial, hJx3⟩⟩
        · have hkN : M = k := by omega
          have hN2 : Chain L ((pre ++ [(⟨(i, k), hk1, by have := HM.out; omega⟩ : Seg N)]).map (·.1)) (i + k) := by
            rw [List.map_append]
            refine Chain.snoc HCh.out hk1 (by have := HM.out; have := HN.out; omega) HE.out fun x' y' hx' hy' => ?_
            have := (List.getElem?_eq_some_iff.1 hy').1
            have := HM.out
            have := HN.out
            omega
          have HCh2 := Lib.hid hN2
          clear hN2
          have d0 : decide (k < M) = false := by simp; omega
          clear hB hBd hJ hJd h0 a0 hkN
          gi_wp2
          refine region_I (S := fun _ => True) (by kernel_rfl) trivial (fun hHeld => ?_)
          refine anyI_take (i := 0) (v := ?vc0) (by kernel_rfl) rfl (by kernel_rfl) (by kernel_rfl) (by kernel_rfl) (fun _ _ _ h => h) (fun _ => rfl) (Or.inl ⟨by rfl, ?yc0⟩) hHeld ?rc0
          case yc0 => (intro W hW; go_simp; first | done | with_reducible rfl)
          try simp only [List.getElem_toArray, List.getElem_cons_zero, Act.put, List.setIfInBounds_toArray, List.set_cons_zero, List.set_cons_succ]
          refine anyI_take (i := 1) (v := ?vc1) (by kernel_rfl) rfl (by kernel_rfl) (by kernel_rfl) (by kernel_rfl) (fun _ _ _ h => h) (fun _ => rfl) (Or.inl ⟨by rfl, ?yc1⟩) hHeld ?rc1
          case yc1 => (intro W hW; go_simp; first | done | with_reducible rfl)
          try simp only [List.getElem_toArray, List.getElem_cons_succ, List.getElem_cons_zero, Act.put, List.setIfInBounds_toArray, List.set_cons_zero, List.set_cons_succ]
          refine anyI_take (i := 2) (v := ?vc2) (by kernel_rfl) rfl (by kernel_rfl) (by kernel_rfl) (by kernel_rfl) (fun _ _ _ h => h) (fun _ => rfl) (Or.inl ⟨by rfl, ?yc2⟩) hHeld ?rc2
          case yc2 => (intro W hW; go_simp; first | done | with_reducible rfl)
          try simp only [List.getElem_toArray, List.getElem_cons_succ, List.getElem_cons_zero, Act.put, List.setIfInBounds_toArray, List.set_cons_zero, List.set_cons_succ]
          refine anyI_take (i := 3) (v := ?vc3) (by kernel_rfl) rfl (by kernel_rfl) (by kernel_rfl) (by kernel_rfl) (fun _ _ _ h => h) (fun _ => rfl) (Or.inl ⟨by rfl, ?yc3⟩) hHeld ?rc3
          case yc3 => (intro W hW; go_simp; first | done | with_reducible rfl)
          try simp only [List.getElem_toArray, List.getElem_cons_succ, List.getElem_cons_zero, Act.put, List.setIfInBounds_toArray, List.set_cons_zero, List.set_cons_succ]
          refine anyI_take (i := 4) (v := ?vc4) (by kernel_rfl) rfl (by kernel_rfl) (by kernel_rfl) (by kernel_rfl) (fun _ _ _ h => h) (fun _ => rfl) (Or.inl ⟨by rfl, ?yc4⟩) hHeld ?rc4
          case yc4 => (intro W hW; go_simp; first | done | with_reducible rfl)
          try simp only [List.getElem_toArray, List.getElem_cons_succ, List.getElem_cons_zero, Act.put, List.setIfInBounds_toArray, List.set_cons_zero, List.set_cons_succ]
          refine anyI_take (i := 5) (v := undef) (by kernel_rfl) rfl (by kernel_rfl) (by kernel_rfl) (by kernel_rfl) (fun _ _ _ h => h) (fun _ => rfl) (Or.inr ⟨by rfl, rfl⟩) hHeld ?rc5
          try simp only [List.getElem_toArray, List.getElem_cons_succ, List.getElem_cons_zero, Act.put, List.setIfInBounds_toArray, List.set_cons_zero, List.set_cons_succ]
          refine anyI_take (i := 6) (v := undef) (by kernel_rfl) rfl (by kernel_rfl) (by kernel_rfl) (by kernel_rfl) (fun _ _ _ h => h) (fun _ => rfl) (Or.inr ⟨by rfl, rfl⟩) hHeld ?rc6
          try simp only [List.getElem_toArray, List.getElem_cons_succ, List.getElem_cons_zero, Act.put, List.setIfInBounds_toArray, List.set_cons_zero, List.set_cons_succ]
          refine anyI_take (i := 7) (v := undef) (by kernel_rfl) rfl (by kernel_rfl) (by kernel_rfl) (by kernel_rfl) (fun _ _ _ h => h) (fun _ => rfl) (Or.inr ⟨by rfl, rfl⟩) hHeld ?rc7
          try simp only [List.getElem_toArray, List.getElem_cons_succ, List.getElem_cons_zero, Act.put, List.setIfInBounds_toArray, List.set_cons_zero, List.set_cons_succ]
          refine anyI_take (i := 8) (v := undef) (by kernel_rfl) rfl (by kernel_rfl) (by kernel_rfl) (by kernel_rfl) (fun _ _ _ h => h) (fun _ => rfl) (Or.inr ⟨by rfl, rfl⟩) hHeld ?rc8
          try simp only [List.getElem_toArray, List.getElem_cons_succ, List.getElem_cons_zero, Act.put, List.setIfInBounds_toArray, List.set_cons_zero, List.set_cons_succ]
          refine anyI_take (i := 9) (v := undef) (by kernel_rfl) rfl (by kernel_rfl) (by kernel_rfl) (by kernel_rfl) (fun _ _ _ h => h) (fun _ => rfl) (Or.inr ⟨by rfl, rfl⟩) hHeld ?rc9
          try simp only [List.getElem_toArray, List.getElem_cons_succ, List.getElem_cons_zero, Act.put, List.setIfInBounds_toArray, List.set_cons_zero, List.set_cons_succ]
          refine anyI_take (i := 10) (v := undef) (by kernel_rfl) rfl (by kernel_rfl) (by kernel_rfl) (by kernel_rfl) (fun _ _ _ h => h) (fun _ => rfl) (Or.inr ⟨by rfl, rfl⟩) hHeld ?rc10
          try simp only [List.getElem_toArray, List.getElem_cons_succ, List.getElem_cons_zero, Act.put, List.setIfInBounds_toArray, List.set_cons_zero, List.set_cons_succ]
          refine anyI_take (i := 11) (v := undef) (by kernel_rfl) rfl (by kernel_rfl) (by kernel_rfl) (by kernel_rfl) (fun _ _ _ h => h) (fun _ => rfl) (Or.inr ⟨by rfl, rfl⟩) hHeld ?rc11
          try simp only [List.getElem_toArray, List.getElem_cons_succ, List.getElem_cons_zero, Act.put, List.setIfInBounds_toArray, List.set_cons_zero, List.set_cons_succ]
          refine anyI_take (i := 12) (v := undef) (by kernel_rfl) rfl (by kernel_rfl) (by kernel_rfl) (by kernel_rfl) (fun _ _ _ h => h) (fun _ => rfl) (Or.inr ⟨by rfl, rfl⟩) hHeld ?rc12
          try simp only [List.getElem_toArray, List.getElem_cons_succ, List.getElem_cons_zero, Act.put, List.setIfInBounds_toArray, List.set_cons_zero, List.set_cons_succ]
          refine anyI_take (i := 13) (v := undef) (by kernel_rfl) rfl (by kernel_rfl) (by kernel_rfl) (by kernel_rfl) (fun _ _ _ h => h) (fun _ => rfl) (Or.inr ⟨by rfl, rfl⟩) hHeld ?rc13
          try simp only [List.getElem_toArray, List.getElem_cons_succ, List.getElem_cons_zero, Act.put, List.setIfInBounds_toArray, List.set_cons_zero, List.set_cons_succ]
          refine anyI_ready (rs := [14]) (by kernel_rfl) (by simp) ?_
          refine AllI.skip rfl (by rfl) (fun _ => trivial) trivial ?_ (AllI.nil)
          try simp only [List.getElem_toArray, List.getElem_cons_succ, List.getElem_cons_zero, Act.put, List.setIfInBounds_toArray, List.set_cons_zero, List.set_cons_succ]
          refine anyI_take (i := 15) (v := undef) (by kernel_rfl) rfl (by kernel_rfl) (by kernel_rfl) (by kernel_rfl) (fun _ _ _ h => h) (fun _ => rfl) (Or.inr ⟨by rfl, rfl⟩) hHeld ?rc15
          try simp only [List.getElem_toArray, List.getElem_cons_succ, List.getElem_cons_zero, Act.put, List.setIfInBounds_toArray, List.set_cons_zero, List.set_cons_succ]
          refine anyI_take (i := 16) (v := ?vc16) (by kernel_rfl) rfl (by kernel_rfl) (by kernel_rfl) (by kernel_rfl) (fun _ _ _ h => h) (fun _ => rfl) (Or.inl ⟨by rfl, ?yc16⟩) hHeld ?rc16
          case yc16 => (intro W hW; go_simp; first | done | with_reducible rfl)
          try simp only [List.getElem_toArray, List.getElem_cons_succ, List.getElem_cons_zero, Act.put, List.setIfInBounds_toArray, List.set_cons_zero, List.set_cons_succ]
          refine anyI_done (by kernel_rfl) ?_ _
          obtain ⟨fn, tmps, assign, body, hy, hR⟩ := hY pre ⟨(i, k), hk1, by have := HM.out; omega⟩ W1.drew HJd.out (by have h := HCh.out.len; have := HM.out; simp at h; omega)
          dsimp only at hy
          rw [← HA.out, show c - i = C from by have := HC.out; omega] at hy
          have i4 : ((k : Int)) ≤ (C : Int) := by omega
          have i5 : ((k : Int)) ≤ (M : Int) := by omega
          have i6 : ((M : Int)) ≤ (C : Int) := by omega
          have i7 : (0 : Int) ≤ (k : Int) := by omega
          gi_wp2
          refine hR.mono ?_
          rintro e W3 (⟨rfl, hJ3, hB3⟩ | ⟨rfl, hJx3⟩)
          · have HJ3 := Lib.hid hJ3
            have HB3 := Lib.hid (HBd.out.trans hB3)
            clear hJ3 hy hB3
            gi_wp2
            exact ⟨.inr ⟨pre ++ [⟨(i, k), hk1, by have := HM.out; omega⟩], _, C - k, by rw [show M - k = 0 by omega], Lib.hid (HCh2.out.to (by have := HM.out; omega)), HJ3.out⟩, by simp [lenOf]; omega⟩
          · gi_wp2
            refine bodyPost_ret (results_none rfl _ _ _) rfl ?_
            exact ⟨⟨_, rfl⟩, .inr ⟨_, trivial, hJx3⟩⟩
    · have d1 : decide ((0 : Int) < ((0 : Nat) : Int)) = false := rfl
      gi_wp2
      go_end0
      exact ⟨⟨_, rfl⟩, .inl ⟨_, HCh.out, hJ⟩⟩
theorem alikeN_stops (n : Nat) (hn : 1 ≤ n) (Bs n₀ : Nat) (ad : Addr) (c N : Nat) (L : List Cel) (hN : N = L.length) (hN1 : N ≤ 1000000) (hc : N ≤ c) (hkl : ∀ x ∈ L, x.key.length ≤ 1000000)
    (w : World) (hn0 : n₀ ≤ w.heap.size) (hBs : Bs < w.heap.size) (hb : w.cell? ⟨Bs, 0, none⟩ = some (.slice (some ad) N c)) (hl : ∀ W', Below n₀ w W' → CellsR W' ad L) :
    SeqStopsK Fence.wide n Tryd.prog 79 #[.pointer (some ⟨Bs, 0, none⟩)] (fun x : Seg N => #[Value.slice (some (ad.add (x.1.1 * 5))) x.1.2 (c - x.1.1)]) (Below n₀) (fun ys => Chain L (ys.map (·.1)) N) (fun _ => True) N w := fun l J Jx W hW hA _ hY h0 =>
  alikeN_in n hn l Bs n₀ ad c N L hN hN1 hc hkl J Jx W hA hY ((hW.cell (p := ⟨Bs, 0, none⟩) hBs).trans hb) (fun _ h => hl _ ((hW.mono hn0).trans h)) h0
end Go.Proofs.YtbkcclmhgnplcaaDoor
/- Rows of cells of the call's own, each with slices of the call's own. -/
namespace Go.Proofs.YtbkcclmhgnplcaaDoor
open Go.RowKit Go.Shelf
/-- Five values of the call's own that read as a cell. -/
def OwnC (B : Nat) (X : World) (u : V5) (x : Cel) : Prop := u.b = .int .i64 x.cnt ∧ CO B X u.a u.c u.d u.e x ∧ inK .i64 x.cnt
def OwnL (B : Nat) (X : World) (us : List V5) (J : List Cel) : Prop := us.length = J.length ∧ ∀ (i : Nat) (u : V5) (x : Cel), us[i]? = some u → J[i]? = some x → OwnC B X u x
def GRs (B : Nat) (X : World) (v : Value) (us : List V5) (J : List Cel) : Prop := X.ownsRow B 33 5 v us.length (flatV us) ∧ OwnL B X us J
section
variable {B B' : Nat} {X Y : World} {v : Value} {u : V5} {x : Cel} {us us' : List V5} {J J' : List Cel}
theorem OwnC.reads (h : OwnC B X u x) : Reads X u x := ⟨h.1, h.2.1.cr, h.2.2⟩
theorem OwnL.reads (h : OwnL B X us J) : ReadsL X us J := ⟨h.1, fun i u x hu hx => (h.2 i u x hu hx).reads⟩
theorem OwnC.stay (h : OwnC B X u x) (hs : ∀ {w : Value} {xs : List Int}, OI B X w xs → OI B' Y w xs) : OwnC B' Y u x := ⟨h.1, ⟨hs h.2.1.key, hs h.2.1.sum, hs h.2.1.mn, hs h.2.1.mx⟩, h.2.2⟩
theorem OwnL.stay (h : OwnL B X us J) (hs : ∀ {w : Value} {xs : List Int}, OI B X w xs → OI B' Y w xs) : OwnL B' Y us J := ⟨h.1, fun i u x hu hx => (h.2 i u x hu hx).stay hs⟩
theorem OwnL.below (h : OwnL B X us J) (hb : Below X.heap.size X Y) : OwnL B Y us J := h.stay fun o => o.below hb
theorem OwnL.mono (h : OwnL B X us J) (hb : B' ≤ B) : OwnL B' X us J := h.stay fun o => o.mono hb
theorem GRs.below (h : GRs B X v us J) (hb : Below X.heap.size X Y) : GRs B Y v us J := ⟨own_below h.1 hb (Nat.le_refl _), h.2.below hb⟩
theorem GRs.mono (h : GRs B X v us J) (hb : B' ≤ B) : GRs B' X v us J := ⟨own_mono h.1 hb, h.2.mono hb⟩
theorem GRs.nil (B : Nat) (X : World) : GRs B X (.slice none 0 0) [] [] := ⟨World.ownsRow_nil _ _ _ _, rfl, fun i u x h => by simp at h⟩
theorem GRs.len (h : GRs B X v us J) : us.length = J.length := h.2.1
/-- Where a row of cells grows, slices of ints stay. -/
theorem OI.rowC {w : Value} {xs : List Int} {n : Nat} {ys : List Value} (h : OI B X w xs) (ho : X.ownsRow B' 33 5 v n ys) (hg : X.grownBy Y v.ownBlock) : OI B Y w xs :=
  ⟨own_stay h.1 fun k hk => hg.block k (h.1.lt k hk).2 fun e => by
    rcases own_apart h.1 ho (by decide) with h0 | h0
    · rw [h0] at hk; cases hk
    · exact h0 (by rw [hk, e]), h.2⟩
theorem OI.kept2 {w : Value} {xs : List Int} {row : Option Nat} (h : OI B X w xs) (hg : X.grownBy Y row) (hr : ∀ r, row = some r → ∃ o : Obj, X.heap[r]? = some o ∧ o.isCells = false) : OI B Y w xs := h.kept hg hr
theorem OwnL.kept {row : Option Nat} (h : OwnL B X us J) (hg : X.grownBy Y row) (hr : ∀ r, row = some r → ∃ o : Obj, X.heap[r]? = some o ∧ o.isCells = false) : OwnL B Y us J := h.stay fun o => o.kept hg hr
theorem GRs.kept {row : Option Nat} (h : GRs B X v us J) (hg : X.grownBy Y row) (hr : ∀ r, row = some r → ∃ o : Obj, X.heap[r]? = some o ∧ o.isCells = false) : GRs B Y v us J := by
  refine ⟨own_stay h.1 fun q hq => hg.block q (h.1.lt q hq).2 fun e => ?_, h.2.kept hg hr⟩
  obtain ⟨o, ho, hc⟩ := hr q e.symm
  rcases h.1.2 with ⟨rfl, _⟩ | ⟨g, cap, cur, rfl, _, hh, _⟩
  · simp [Value.ownBlock] at hq
  · simp only [Value.ownBlock, Option.some.injEq] at hq
    subst hq
    rw [hh] at ho
    cases ho
    cases hc
theorem OwnL.append (h : OwnL B X us J) (h' : OwnL B X us' J') : OwnL B X (us ++ us') (J ++ J') := by
  refine ⟨by simp [h.1, h'.1], fun i u x hu hx => ?_⟩
  rcases Nat.lt_or_ge i us.length with c | c
  · rw [List.getElem?_append_left c] at hu
    rw [List.getElem?_append_left (by rw [← h.1]; exact c)] at hx
    exact h.2 i u x hu hx
  · rw [List.getElem?_append_right c] at hu
    rw [List.getElem?_append_right (by rw [← h.1]; exact c), ← h.1] at hx
    exact h'.2 _ u x hu hx
theorem OwnL.one (h : OwnC B X u x) : OwnL B X [u] [x] := ⟨rfl, fun i w y hw hy => by
  match i, hw, hy with
  | 0, hw, hy =>
    simp only [List.getElem?_cons_zero, Option.some.injEq] at hw hy
    subst hw hy
    exact h⟩
theorem OwnL.take (h : OwnL B X us J) (k : Nat) : OwnL B X (us.take k) (J.take k) := ⟨by simp [h.1], fun i u x hu hx => by
  rw [List.getElem?_take] at hu hx
  split at hu
  · rename_i hk
    rw [if_pos hk] at hx
    exact h.2 i u x hu hx
  · cases hu⟩
theorem OwnL.drop (h : OwnL B X us J) (k : Nat) : OwnL B X (us.drop k) (J.drop k) := ⟨by simp [h.1], fun i u x hu hx => by
  rw [List.getElem?_drop] at hu hx
  exact h.2 _ u x hu hx⟩
theorem flatV_append (us us' : List V5) : flatV (us ++ us') = flatV us ++ flatV us' := by simp [flatV]
theorem flatV_one (u : V5) : flatV [u] = u.l := by simp [flatV]
/-- The row as a slice, and where its cells lie. -/
theorem GRs.form (h : GRs B X v us J) : ∃ P c, v = .slice P us.length c ∧ us.length ≤ c ∧ c ≤ maxLen ∧ (0 < us.length → ∃ g, P = some ⟨g, 0, none⟩ ∧ B ≤ g ∧ g < X.heap.size ∧ CellsR X ⟨g, 0, none⟩ J ∧ ∀ j u, (flatV us)[j]? = some u → X.cell? ⟨g, j, none⟩ = some u) ∧ (P = none → c = 0) := by
  obtain ⟨P, c, hv, h1, h2, h3⟩ := own_form h.1
  refine ⟨P, c, hv, h1, h2, fun hn => ?_, fun e => ?_⟩
  · obtain ⟨g, rfl, q4, q5⟩ := h3 hn
    refine ⟨g, rfl, q4, ?_, cells_of_vals h.2.reads (fun j u hu => by rw [add0]; exact q5 j u hu), q5⟩
    have := h.1.lt g (by rw [hv]; rfl)
    exact this.2
  · rcases own_form0 h.1 with ⟨e1, _⟩ | ⟨g, c', e1, _⟩
    · rw [hv] at e1; injection e1
    · rw [hv, e] at e1; injection e1 with e1 _ _; cases e1
end
/-- Cells are laid behind a row. -/
theorem append_gr {B : Nat} {X : World} {v : Value} {us us2 : List V5} {J J2 : List Cel} (a : Addr) (m c : Nat) (h : GRs B X v us J) (h2 : OwnL B X us2 J2) (hm : m = us2.length) (hc : ∀ j u, (flatV us2)[j]? = some u → X.cell? (a.add j) = some u) (hl : us.length + m ≤ 1000000) (hB : B ≤ X.heap.size) :
    ∃ v' X3, (Builtin.append_ #[31, 31] 31 #[v, .slice (some a) m c]).run Tryd.prog X = .ok v' X3 ∧ GRs B X3 v' (us ++ us2) (J ++ J2) ∧ X.grownBy X3 v.ownBlock ∧ (v'.ownBlock = v.ownBlock ∨ v'.ownBlock = some X.heap.size) := by
  obtain ⟨i0, hi, hz0, hz1, hz2⟩ := info_parts infoC
  subst hm
  obtain ⟨v', X3, hrun, ho, hg, _, hb⟩ := run_append_own_at (P := Tryd.prog) X B 31 31 33 i0 _ 5 104 Tryd.underlying31 hi hz0 hz1 hz2 rfl (by omega) v us.length (flatV us) h.1 a us2.length c (flatV us2) (flatV_len us2) hc h2.reads.one (by simp only [maxLen]; omega) (by omega) hB
  refine ⟨v', X3, hrun, ⟨?_, (h.2.append h2).stay fun o => o.rowC h.1 hg⟩, hg, hb⟩
  rw [List.length_append, flatV_append]
  exact ho
/-- One more cell, laid out first in a block of one. -/
theorem append_one {B : Nat} {X : World} {v : Value} {us : List V5} {J : List Cel} {u : V5} {x : Cel} (h : GRs B X v us J) (h2 : OwnC B X u x) (hl : us.length + 1 ≤ 1000000) (hB : B ≤ X.heap.size) :
    ∃ v' X3, (Builtin.append_ #[31, 31] 31 #[v, .slice (some ⟨X.heap.size, 0, none⟩) 1 1]).run Tryd.prog (X.alloc (.cells #[u.a, u.b, u.c, u.d, u.e] 33)) = .ok v' X3 ∧ GRs B X3 v' (us ++ [u]) (J ++ [x]) ∧
      (X.alloc (.cells #[u.a, u.b, u.c, u.d, u.e] 33)).grownBy X3 v.ownBlock ∧ (v'.ownBlock = v.ownBlock ∨ v'.ownBlock = some (X.heap.size + 1)) := by
  have hb : Below X.heap.size X (X.alloc (.cells #[u.a, u.b, u.c, u.d, u.e] 33)) := (Below.refl _ _).alloc (Nat.le_refl _) _
  have := append_gr (X := X.alloc (.cells #[u.a, u.b, u.c, u.d, u.e] 33)) ⟨X.heap.size, 0, none⟩ 1 1 (h.below hb) ((OwnL.one h2).below hb) rfl (fun j w hw => by
    rw [add0, show (X.alloc (.cells #[u.a, u.b, u.c, u.d, u.e] 33)).cell? ⟨X.heap.size, j, none⟩ = #[u.a, u.b, u.c, u.d, u.e][j]? from cell_of_row _ _ _ _ 33 (0, 0) (heap_alloc_new X _)]
    rw [flatV_one] at hw
    simpa [V5.l] using hw) hl (by simp; omega)
  simpa using this
end Go.Proofs.YtbkcclmhgnplcaaDoor
/- Package cell's Group: 1 to 60 cells. -/
namespace Go.Proofs.YtbkcclmhgnplcaaDoor
open Go.RowKit Go.Shelf
attribute [local go_sem] Oper.semAt_some
theorem join2_ok {a b : Cel} : inK .i64 (join2 a b).cnt := by
  show inK .i64 (wrap64 (a.cnt + b.cnt))
  unfold wrap64
  exact ⟨by omega, by omega⟩
theorem foldl_ok : ∀ (t : List Cel) (x : Cel), inK .i64 x.cnt → inK .i64 (t.foldl join2 x).cnt
  | [], _, h => h
  | y :: t, x, _ => foldl_ok t (join2 x y) join2_ok
/-- What a stretch comes to. -/
def segJ (L : List Cel) {N : Nat} (s : Seg N) : Cel := joinAll ((L.drop s.1.1).take s.1.2)
/-- Behind some rounds: the row holds what the stretches come to. -/
def GIs (n₀ : Nat) (w4 : World) (L : List Cel) {N : Nat} (pre : List (Seg N)) (W : World) : Prop := Below n₀ w4 W ∧ ∃ v us, Boxed W n₀ 31 v ∧ GRs n₀ W v us (pre.map (segJ L))
theorem GIs.own {n₀ : Nat} {w4 : World} {L : List Cel} {N : Nat} (hn : n₀ < w4.heap.size) : OwnFrom w4.heap.size (GIs n₀ w4 L (N := N)) := by
  rintro pre X Y row ⟨hb, v, us, hv, hg⟩ hgr hr
  have hr2 : ∀ r, row = some r → ∃ o : Obj, X.heap[r]? = some o ∧ o.isCells = false := fun r e => (hr r e).2
  refine ⟨hb.grown hgr (Nat.le_trans (Nat.le_of_lt hn) hb.size) fun k e => Nat.le_trans (Nat.le_of_lt hn) (hr k e).1, v, us, hv.kept hgr fun e => ?_, hg.kept hgr hr2⟩
  obtain ⟨o, ho, hc⟩ := hr2 n₀ e.symm
  rw [show X.heap[n₀]? = _ from hv] at ho
  cases ho
  cases hc
theorem GRs.box {B n₀ : Nat} {X : World} {v u : Value} {us : List V5} {J : List Cel} (h : GRs B X v us J) (hx : Boxed X n₀ 31 u) (i : Nat) (z : Value) : GRs B (X.setCell ⟨n₀, i, none⟩ z) v us J := by
  have ne : ∀ {e : TypeId} {s n : Nat} {w : Value} {xs : List Value}, X.ownsRow B e s w n xs → e ≠ 31 → ∀ k, w.ownBlock = some k → k ≠ n₀ := fun {e s n w xs} ho he k hk hkn => by
    rcases ho.2 with ⟨rfl, _⟩ | ⟨g, cap, cur, rfl, _, hh, _⟩
    · cases hk
    · simp only [Value.ownBlock, Option.some.injEq] at hk
      subst hk
      rw [hkn, show X.heap[n₀]? = _ from hx] at hh
      injection hh with hh
      injection hh with _ hh _
      exact he hh.symm
  exact ⟨own_stay h.1 fun k hk => Below.heap_setCell _ _ _ _ (ne h.1 (by decide) k hk), h.2.stay fun o => ⟨own_stay o.1 fun k hk => Below.heap_setCell _ _ _ _ (ne o.1 (by decide) k hk), o.2⟩⟩
theorem group_stepN (n₀ : Nat) (w4 W X1 : World) (v : Value) (us : List V5) (Js : List Cel) (J : Cel) (k s n m : Value) (hn : n₀ < w4.heap.size) (hx : Boxed W n₀ 31 v) (hg : GRs n₀ W v us Js) (h0 : Below n₀ w4 W)
    (hc : CO W.drew.heap.size X1 k s n m J) (hJ : inK .i64 J.cnt) (h1 : Below W.drew.heap.size W.drew X1) (hl : us.length + 1 ≤ 1000000) :
    ∃ g' cp X3, (Builtin.append_ #[31, 31] 31 #[v, .slice (some ⟨X1.heap.size, 0, none⟩) 1 1]).run Tryd.prog (X1.alloc (.cells #[k, .int .i64 J.cnt, s, n, m] 33)) = .ok (.slice (some ⟨g', 0, none⟩) (us.length + 1) cp) X3 ∧
      Boxed X3 n₀ 31 v ∧ KeepsFrom w4.heap.size W (X3.setCell ⟨n₀, 0, none⟩ (.slice (some ⟨g', 0, none⟩) (us.length + 1) cp)) ∧ Below n₀ W (X3.setCell ⟨n₀, 0, none⟩ (.slice (some ⟨g', 0, none⟩) (us.length + 1) cp)) ∧
      Boxed (X3.setCell ⟨n₀, 0, none⟩ (.slice (some ⟨g', 0, none⟩) (us.length + 1) cp)) n₀ 31 (.slice (some ⟨g', 0, none⟩) (us.length + 1) cp) ∧ GRs n₀ (X3.setCell ⟨n₀, 0, none⟩ (.slice (some ⟨g', 0, none⟩) (us.length + 1) cp)) (.slice (some ⟨g', 0, none⟩) (us.length + 1) cp) (us ++ [⟨k, .int .i64 J.cnt, s, n, m⟩]) (Js ++ [J]) := by
  have hW : w4.heap.size ≤ W.heap.size := h0.size
  have hX1 : W.heap.size ≤ X1.heap.size := h1.size
  have hbW : Below W.heap.size W X1 := (Below.drew (Below.refl _ W)).trans h1
  have hg1 : GRs n₀ X1 v us Js := hg.below hbW
  have hu : OwnC n₀ X1 ⟨k, .int .i64 J.cnt, s, n, m⟩ J := ⟨rfl, hc.mono (show n₀ ≤ W.drew.heap.size by show n₀ ≤ W.heap.size; omega), hJ⟩
  obtain ⟨v', X3, hrun, hr, hgr, -⟩ := append_one hg1 hu hl (by omega)
  dsimp only at hrun hgr
  have hx1 : Boxed X1 n₀ 31 v := (hbW.block n₀ hx.lt).trans hx
  have hx1' := hx1.alloc (.cells #[k, .int .i64 J.cnt, s, n, m] 33)
  have ho1' := own_below hg1.1 ((Below.refl _ X1).alloc (Nat.le_refl _) (.cells #[k, .int .i64 J.cnt, s, n, m] 33)) (Nat.le_refl _)
  have hx3 : Boxed X3 n₀ 31 v := hx1'.kept hgr (Boxed.not_row hx1' (by decide) ho1')
  obtain ⟨g', cp, e'⟩ := ownsRow_succ (k := us.length) (by simpa using hr.1)
  subst e'
  have g1 : Below n₀ W (X1.alloc (.cells #[k, .int .i64 J.cnt, s, n, m] 33)) := (hbW.mono (by omega)).alloc (by omega) _
  have g2 : Below n₀ W X3 := g1.grown hgr (by simp; omega) fun j e => (hg1.1.lt j e).1
  refine ⟨g', cp, X3, hrun, hx3, ⟨?_, fun q o hq ho2 hoc => ?_⟩, g2.setCell (Nat.le_refl _) _, hx3.set _, hr.box hx3 _ _⟩
  · have := g2.size
    simpa [World.setCell] using this
  · have hq1 : q < W.heap.size := by
      rcases Nat.lt_or_ge q W.heap.size with h | h
      · exact h
      · rw [Array.getElem?_eq_none h] at ho2; cases ho2
    have e1 : X1.heap[q]? = some o := (hbW.block q hq1).trans ho2
    have e2 : (X1.alloc (.cells #[k, .int .i64 J.cnt, s, n, m] 33)).heap[q]? = some o := (Below.heap_alloc _ _ _ (by omega)).trans e1
    refine (Below.heap_setCell _ _ _ _ (by show q ≠ n₀; omega)).trans ((hgr.block q (by simp; omega) fun e => ?_).trans e2)
    rcases hg1.1.2 with ⟨rfl, _⟩ | ⟨g, cap, cur, rfl, _, hh, _⟩
    · cases e
    · simp only [Value.ownBlock, Option.some.injEq] at e
      subst e
      rw [hh] at e1
      cases e1
      cases hoc
set_option maxRecDepth 100000 in
set_option maxHeartbeats 2000000 in
theorem groupN_any (ad : Addr) (c N : Nat) (L : List Cel) (me : Nat) (w : World) (hl : CellsR w ad L) (he : ∀ x ∈ L, EvenC me x) (hkl : ∀ x ∈ L, x.key.length ≤ 1000000) (hm : me ≤ 1000000) (hN : N = L.length) (hn : N ≤ 60) (hn1 : 1 ≤ N) :
    Calls Tryd.prog 28 #[.slice (some ad) N c] w fun e w' => ∃ v us, e = .returned v ∧ GRs w.heap.size w' v us (grpR L) ∧ Below w.heap.size w w' := by
  refine callsIn_wide (n := 9).1 ?_
  obtain ⟨vs, hr, hcv⟩ := hl.vals
  have hvN : vs.length = N := by rw [hr.1, hN]
  have Heven : ∀ W, Keeps w W → Calls Tryd.prog 47 #[.slice (some ad) N c] W fun e w' => e = .returned (.bool true) ∧ Below W.heap.size W w' := fun W hW => by
    have := even_any ad c L me W (hl.keep hW) he hm (by omega)
    rwa [← hN] at this
  have Hclone : ∀ W, Below w.heap.size w W → Calls Tryd.prog 49 #[.slice (some ad) N c] W fun e w' => ∃ g c', e = .returned (.slice (some ⟨g, 0, none⟩) N c') ∧ N ≤ c' ∧ c' ≤ maxLen ∧ w.heap.size ≤ g ∧ w'.ownsRow w.heap.size 33 5 (.slice (some ⟨g, 0, none⟩) N c') N (flatV vs) ∧ Below w.heap.size w w' := fun W hW => by
    have hK := Keeps.of_below hW
    have := cclone_any ad c vs L W (hr.keep hK) (fun j u hu => hK _ _ (hcv j u hu)) (by omega)
    rw [hvN] at this
    refine this.mono ?_
    rintro e w' ⟨v', rfl, ho, hb⟩
    obtain ⟨P, c', rfl, q1, q2, q3⟩ := own_form ho
    obtain ⟨g, rfl, q4, q5⟩ := q3 (by omega)
    exact ⟨g, c', rfl, q1, q2, Nat.le_trans hW.size q4, own_mono ho hW.size, hW.trans (hb.mono hW.size)⟩
  have Hsort : ∀ W g c', Below w.heap.size w W → w.heap.size ≤ g → W.ownsRow w.heap.size 33 5 (.slice (some ⟨g, 0, none⟩) N c') N (flatV vs) → Calls Tryd.prog 50 #[.slice (some ⟨g, 0, none⟩) N c', .func (.func 51) #[] #[]] W
      fun e w' => (∃ v, e = .returned v) ∧ ∃ l', l'.Perm L ∧ SortedP l' ∧ CellsR w' ⟨g, 0, none⟩ l' ∧ Below w.heap.size W w' := fun W g c' hW hg ho =>
    sortC_any w.heap.size g c' N vs L w W rfl hr (Keeps.of_below hW) hg ho hkl hvN hn hW.size
  have He := Lib.hid he
  have Hkl := Lib.hid hkl
  have HE := Lib.hid Heven
  have HC := Lib.hid Hclone
  have HS := Lib.hid Hsort
  have HN := Lib.hid hN
  clear hl he hkl hr hcv hvN Heven Hclone Hsort hN
  refine callsIn_of_wp_marks Tryd.func28 rfl trivial ?_ rfl
  simp only [Tryd.ntmps28, List.size_toArray, List.length_cons, List.length_nil, Nat.reduceAdd, Nat.reduceSub, Array.replicate_succ, Array.replicate_zero, List.push_toArray, List.append_toArray, List.nil_append, List.cons_append]
  gi_wp2_with fail
  refine ⟨trivial, ?_⟩
  refine (callsIn_wide.2 (HE.out w (Keeps.refl _))).mono ?_
  rintro e w1 ⟨rfl, hb1⟩
  have B1 := Lib.hid hb1
  clear hb1 HE
  gi_wp2_with fail
  refine ⟨trivial, ?_⟩
  refine (callsIn_wide.2 (HC.out w1 B1.out)).mono ?_
  rintro e w2 ⟨g, c', rfl, hc1, hc2, hg, hown, hb2⟩
  have B2 := Lib.hid hb2
  have HG := Lib.hid hg
  have HO := Lib.hid hown
  clear hg hown hb2 HC
  gi_wp2_with fail
  refine ⟨trivial, ?_⟩
  refine (callsIn_wide.2 (HS.out w2 g c' B2.out HG.out HO.out)).mono ?_
  rintro e w3 ⟨⟨v0, rfl⟩, l', hperm, hsorted, hcl, hb3⟩
  have B3 := Lib.hid (B2.out.trans hb3)
  have HCl3 := Lib.hid hcl
  have HP := Lib.hid hperm
  have HSo := Lib.hid hsorted
  clear hb3 HS HO hcl hperm hsorted
  gi_wp2_with fail
  refine ⟨trivial, ?_⟩
  refine (callsIn_wide.2 (alike_in (some ⟨g, 0, none⟩) N c' _)).mono ?_
  rintro e w4 ⟨rfl, rfl⟩
  have b0 := (Boxed.new w3 31 (.slice none 0 0)).alloc (.cells #[.slice (some ⟨g, 0, none⟩) N c'] 31)
  have b1 := Boxed.new (w3.alloc (.cells #[.slice none 0 0] 31)) 31 (.slice (some ⟨g, 0, none⟩) N c')
  have hB34 : Below w3.heap.size w3 ((w3.alloc (.cells #[.slice none 0 0] 31)).alloc (.cells #[.slice (some ⟨g, 0, none⟩) N c'] 31)) := ((Below.refl _ w3).alloc (Nat.le_refl _) _).alloc (by simp) _
  have hz4 : ((w3.alloc (.cells #[.slice none 0 0] 31)).alloc (.cells #[.slice (some ⟨g, 0, none⟩) N c'] 31)).heap.size = w3.heap.size + 2 := by simp
  simp only [World.size_alloc] at b0 b1 ⊢
  gi_wp2_with fail
  generalize (w3.alloc (.cells #[.slice none 0 0] 31)).alloc (.cells #[.slice (some ⟨g, 0, none⟩) N c'] 31) = w4 at b0 b1 hB34 hz4 ⊢
  have hw3 := B3.out.size
  have hNl : N = l'.length := by rw [HN.out]; exact HP.out.length_eq.symm
  have HNl := Lib.hid hNl
  clear hNl
  have hcl4 : ∀ W', Below w3.heap.size w4 W' → CellsR W' ⟨g, 0, none⟩ l' := fun W' h => HCl3.out.keep (Keeps.of_below (hB34.trans h))
  have hsq := alikeN_stops 8 (by omega) (w3.heap.size + 1) w3.heap.size ⟨g, 0, none⟩ c' N l' HNl.out (by omega) hc1 (fun x hx => Hkl.out x (HP.out.mem_iff.1 hx)) w4 (by omega) (by omega) b1.cell hcl4
  rw [show (fun x : Seg N => #[Value.slice (some ((⟨g, 0, none⟩ : Addr).add (x.1.1 * 5))) x.1.2 (c' - x.1.1)]) = fun x : Seg N => #[Value.slice (some ⟨g, x.1.1 * 5, none⟩) x.1.2 (c' - x.1.1)] from by funext x; rw [add0]] at hsq
  refine wpIn_rangeFunc_ownG rfl (by omega) (gf := 79) (lb := #[.pointer (some ⟨w3.heap.size + 1, 0, none⟩)]) rfl trivial (enters_of Tryd.func79 (by kernel_rfl) rfl)
    hsq belowK_t (belowK_b (by omega)) (Below.refl _ _) (fun _ => rfl)
    (GIs w3.heap.size w4 l') (fun _ _ _ => False) (GIs.own (by omega)) (fun _ _ _ _ _ hs _ _ => hs) ⟨Below.refl _ _, _, [], b0, GRs.nil _ _⟩
    (fun x => { tmps := #[.slice (some ad) N c, undef, .slice none 0 0, .slice (some ⟨g, 0, none⟩) N c', .pointer (some ⟨w3.heap.size, 0, none⟩), .slice (some ⟨g, x.1.1 * 5, none⟩) x.1.2 (c' - x.1.1), .slice (some ad) N c, .bool true, .bool false, .slice (some ad) N c, .slice (some ⟨g, 0, none⟩) N c', .slice (some ⟨g, 0, none⟩) N c', v0, .slice (some ⟨g, 0, none⟩) N c', .func (.func 79) #[] #[.pointer (some ⟨w3.heap.size + 1, 0, none⟩)], .slice (some ⟨g, x.1.1 * 5, none⟩) x.1.2 (c' - x.1.1), undef, undef, undef, undef, undef, undef], defers := [] }) ?assign ?body ?done ?stop
  case assign =>
    intro l x W K hK
    gi_wp2
    exact hK
  case done =>
    rintro D ys W hD hys ⟨hb, v, us, hv, hgr⟩ hK
    have hc := hv.cell
    have hgr2 : GRs w3.heap.size W v us (grpR L) := by
      have e1 : ys.map (segJ l') = grpR L := by
        rw [← grpR_perm HP.out]
        have := hys.group HSo.out
        rw [List.take_of_length_le (by rw [← HNl.out]; exact Nat.le_refl _)] at this
        rw [← this, List.map_map]
        rfl
      rw [← e1]
      exact hgr
    have HGr := Lib.hid hgr2
    have HBW := Lib.hid (B3.out.trans ((hB34.trans hb).mono hw3))
    have HK := Lib.hid hK
    clear hys hgr hgr2 hb
    gi_wp2
    refine ⟨by simp, .inl ⟨_, _, rfl, run_takeDeferred HK.out, ?_⟩⟩
    have g2 := HGr.out.kept (grownBy_putObj' W D (.deferred none)) (fun r e => by cases e; exact ⟨_, HK.out, rfl⟩)
    exact ⟨_, results_tmp rfl _ _ _, v, us, rfl, g2.mono (by omega), HBW.out.trans (belowK_b (w := w) (Nat.le_refl _) W D _ _ (by omega) HK.out rfl rfl)⟩
  case stop =>
    rintro D c pre W _ _ h _
    exact h.elim
  case body =>
    rintro l pre ⟨⟨i, kk⟩, hx1, hx2⟩ W ⟨h0, v, us, hv, hgr⟩ hlt
    obtain ⟨kq, rfl⟩ : ∃ q, kk = q + 1 := ⟨kk - 1, by dsimp only at hx1; omega⟩
    dsimp only at hx1 hx2 ⊢
    have hcW := hcl4 W.drew (below_drewN h0 1)
    have hcs : CellsR W.drew ((⟨g, 0, none⟩ : Addr).add (i * 5)) ((l'.drop i).take (kq + 1)) := (hcW.drop i).take _
    obtain ⟨z, hz⟩ : ∃ z, l'[i]? = some z := ⟨_, List.getElem?_eq_getElem (by rw [← HNl.out]; omega)⟩
    have e2 : (l'.drop i).take (kq + 1) = z :: (l'.drop (i + 1)).take kq := by
      rw [List.drop_eq_getElem_cons (by rw [← HNl.out]; omega : i < l'.length), List.take_succ_cons]
      congr 1
      exact (List.getElem?_eq_some_iff.1 hz).2
    have hJ : segJ l' (⟨(i, kq + 1), hx1, hx2⟩ : Seg N) = joinAll (z :: (l'.drop (i + 1)).take kq) := by unfold segJ; rw [e2]
    have hsub : ∀ x ∈ z :: (l'.drop (i + 1)).take kq, x ∈ L := fun x hx => by
      rw [← e2] at hx
      exact HP.out.mem_iff.1 (List.mem_of_mem_drop (List.mem_of_mem_take hx))
    have hlen : kq = ((l'.drop (i + 1)).take kq).length := by rw [List.length_take, List.length_drop, ← HNl.out]; omega
    rw [e2] at hcs
    have hj := joined_any ((⟨g, 0, none⟩ : Addr).add (i * 5)) (c' - i) kq z ((l'.drop (i + 1)).take kq) me W.drew hcs (fun x hx => He.out x (hsub x hx)) (Hkl.out z (hsub z (by simp))) hm hlen (by omega) (by omega) (by omega)
    rw [add0] at hj
    have hzc : inK .i64 z.cnt := by
      obtain ⟨_, _, _, _, _, _, _, _, _, _, h⟩ := hcs.first
      exact h
    have hJok : inK .i64 (joinAll (z :: (l'.drop (i + 1)).take kq)).cnt := foldl_ok _ z hzc
    have hpl : (pre ++ [(⟨(i, kq + 1), hx1, hx2⟩ : Seg N)]).map (segJ l') = pre.map (segJ l') ++ [joinAll (z :: (l'.drop (i + 1)).take kq)] := by rw [List.map_append, List.map_cons, hJ]; rfl
    have hul : us.length + 1 ≤ 1000000 := by
      have := hgr.len
      rw [List.length_map] at this
      omega
    have hstep := fun X1 k s n m hc h1 => group_stepN w3.heap.size w4 W X1 v us (pre.map (segJ l')) _ k s n m (by omega) hv hgr h0 hc hJok h1 hul
    have hcW0 : W.cell? ⟨w3.heap.size, 0, none⟩ = some v := hv.cell
    have hk1 : ∀ X1, Below W.drew.heap.size W.drew X1 → X1.cell? ⟨w3.heap.size, 0, none⟩ = some v := fun X1 h => (Keeps.of_below h) _ _ hcW0
    obtain ⟨Pv, cv, fv, -⟩ := hgr.form
    obtain ⟨J, hJe⟩ : ∃ J, J = joinAll (z :: (l'.drop (i + 1)).take kq) := ⟨_, rfl⟩
    rw [← hJe] at hj hstep hpl
    generalize hul2 : us.length = um at fv hstep
    subst fv
    have Hpl := Lib.hid hpl
    have Hj := Lib.hid hj
    have Hst := Lib.hid hstep
    have Hk1 := Lib.hid hk1
    have H0 := Lib.hid h0
    clear hj hstep hk1 hcW hcs h0 hcl4 b0 b1 hB34 hz4 hv hgr e2 hJ hsub hlen hz hzc hJok hpl hul hul2 hJe z hsq
    gi_wp2_with fail
    refine region_I (S := fun _ => True) (by kernel_rfl) trivial (fun hHeld => ?_)
    refine anyI_take (i := 1) (v := ?vb1) (by kernel_rfl) rfl (by kernel_rfl) (by kernel_rfl) (by kernel_rfl) (fun _ _ _ h => h) (fun _ => rfl) (Or.inl ⟨by rfl, ?yb1⟩) hHeld ?rb1
    case yb1 => (intro W hW; go_simp; first | done | with_reducible rfl)
    try simp only [List.getElem_toArray, List.getElem_cons_succ, List.getElem_cons_zero, Act.put, List.setIfInBounds_toArray, List.set_cons_zero, List.set_cons_succ]
    refine anyI_ready (rs := [0, 2]) (by kernel_rfl) (by simp) ?_
    refine AllI.cons (by kernel_rfl) rfl (by rfl) (fun K hK => ?_) (AllI.cons (by kernel_rfl) rfl (by rfl) (fun K hK => ?_) (AllI.nil))
    · refine ⟨fun _ _ => trivial, ?_⟩
      go_simp
      refine hK.out _ _ (trivial) (fun hHeld => ?_)
      clear hK K
      try simp only [List.getElem_toArray, List.getElem_cons_succ, List.getElem_cons_zero, Act.put, List.setIfInBounds_toArray, List.set_cons_zero, List.set_cons_succ]
      refine anyI_ready (rs := [2]) (by kernel_rfl) (by simp) ?_
      refine AllI.cons (by kernel_rfl) rfl (by rfl) (fun K hK => ?_) (AllI.nil)
      refine ⟨fun _ _ => trivial, ?_⟩
      go_simp
      refine (CallsIn.inRound l (callsIn_wide.2 Hj.out)).mono ?_
      rintro e X1 ⟨k, s, n, m, rfl, hco, hap, hbx⟩
      dsimp only
      obtain ⟨g', cp, X3, hrun, hx3, hkf, hbf, hbn, hgi⟩ := Hst.out X1 k s n m hco hbx
      have c1 := Hk1.out X1 hbx
      have c2 : (X1.alloc (.cells #[k, .int .i64 J.cnt, s, n, m] 33)).cell? ⟨w3.heap.size, 0, none⟩ = some (.slice Pv um cv) := ((Keeps.refl X1).alloc _) _ _ c1
      have x3f := hx3.frozen
      have x3c := hx3.cell
      obtain ⟨Pk, ck, f1, -⟩ := hco.key.form
      obtain ⟨Ps, cs, f2, -⟩ := hco.sum.form
      obtain ⟨Pn, cn, f3, -⟩ := hco.mn.form
      obtain ⟨Pm, cm, f4, -⟩ := hco.mx.form
      subst f1 f2 f3 f4
      have Hrun := Lib.hid hrun
      have Hfin := Lib.hid (show KeepsFrom w4.heap.size W _ ∧ Below w3.heap.size W _ ∧ GIs w3.heap.size w4 l' (pre ++ [(⟨(i, kq + 1), hx1, hx2⟩ : Seg N)]) _ from ⟨hkf, hbf, H0.out.trans hbf, _, _, hbn, by rw [Hpl.out]; exact hgi⟩)
      clear hco hap hbx hrun hx3 hkf hgi hbf hbn
      refine hK.out _ _ (trivial) (fun hHeld => ?_)
      clear hK K
      try simp only [List.getElem_toArray, List.getElem_cons_succ, List.getElem_cons_zero, Act.put, List.setIfInBounds_toArray, List.set_cons_zero, List.set_cons_succ]
      refine anyI_ready (rs := [3]) (by kernel_rfl) (by simp) ?_
      refine AllI.cons (by kernel_rfl) rfl (by rfl) (fun K hK => ?_) (AllI.nil)
      refine ⟨fun _ _ => trivial, ?_⟩
      go_simp
      refine hK.out _ _ (trivial) (fun hHeld => ?_)
      clear hK K
      try simp only [List.getElem_toArray, List.getElem_cons_succ, List.getElem_cons_zero, Act.put, List.setIfInBounds_toArray, List.set_cons_zero, List.set_cons_succ]
      refine anyI_ready (rs := [4]) (by kernel_rfl) (by simp) ?_
      refine AllI.cons (by kernel_rfl) rfl (by rfl) (fun K hK => ?_) (AllI.nil)
      refine ⟨fun _ _ => trivial, ?_⟩
      refine uponI_append (.tmp 16) (.tmp 19) 31 rfl _ _ _ rfl rfl Hrun.out ?_
      refine hK.out _ _ (trivial) (fun hHeld => ?_)
      clear hK K
      try simp only [List.getElem_toArray, List.getElem_cons_succ, List.getElem_cons_zero, Act.put, List.setIfInBounds_toArray, List.set_cons_zero, List.set_cons_succ]
      refine anyI_ready (rs := [5]) (by kernel_rfl) (by simp) ?_
      refine AllI.cons (by kernel_rfl) rfl (by rfl) (fun K hK => ?_) (AllI.nil)
      refine ⟨fun _ _ => trivial, ?_⟩
      go_simp
      refine hK.out _ _ (trivial) (fun hHeld => ?_)
      clear hK K
      try simp only [List.getElem_toArray, List.getElem_cons_succ, List.getElem_cons_zero, Act.put, List.setIfInBounds_toArray, List.set_cons_zero, List.set_cons_succ]
      refine anyI_done (by kernel_rfl) ?_ _
      gi_wp2
      exact Hfin.out
    · refine ⟨fun _ _ => trivial, ?_⟩
      go_simp
      refine (CallsIn.inRound l (callsIn_wide.2 Hj.out)).mono ?_
      rintro e X1 ⟨k, s, n, m, rfl, hco, hap, hbx⟩
      dsimp only
      obtain ⟨g', cp, X3, hrun, hx3, hkf, hbf, hbn, hgi⟩ := Hst.out X1 k s n m hco hbx
      have c1 := Hk1.out X1 hbx
      have c2 : (X1.alloc (.cells #[k, .int .i64 J.cnt, s, n, m] 33)).cell? ⟨w3.heap.size, 0, none⟩ = some (.slice Pv um cv) := ((Keeps.refl X1).alloc _) _ _ c1
      have x3f := hx3.frozen
      have x3c := hx3.cell
      obtain ⟨Pk, ck, f1, -⟩ := hco.key.form
      obtain ⟨Ps, cs, f2, -⟩ := hco.sum.form
      obtain ⟨Pn, cn, f3, -⟩ := hco.mn.form
      obtain ⟨Pm, cm, f4, -⟩ := hco.mx.form
      subst f1 f2 f3 f4
      have Hrun := Lib.hid hrun
      have Hfin := Lib.hid (show KeepsFrom w4.heap.size W _ ∧ Below w3.heap.size W _ ∧ GIs w3.heap.size w4 l' (pre ++ [(⟨(i, kq + 1), hx1, hx2⟩ : Seg N)]) _ from ⟨hkf, hbf, H0.out.trans hbf, _, _, hbn, by rw [Hpl.out]; exact hgi⟩)
      clear hco hap hbx hrun hx3 hkf hgi hbf hbn
      refine hK.out _ _ (trivial) (fun hHeld => ?_)
      clear hK K
      try simp only [List.getElem_toArray, List.getElem_cons_succ, List.getElem_cons_zero, Act.put, List.setIfInBounds_toArray, List.set_cons_zero, List.set_cons_succ]
      refine anyI_ready (rs := [0, 3]) (by kernel_rfl) (by simp) ?_
      refine AllI.cons (by kernel_rfl) rfl (by rfl) (fun K hK => ?_) (AllI.cons (by kernel_rfl) rfl (by rfl) (fun K hK => ?_) (AllI.nil))
      · refine ⟨fun _ _ => trivial, ?_⟩
        go_simp
        refine hK.out _ _ (trivial) (fun hHeld => ?_)
        clear hK K
        try simp only [List.getElem_toArray, List.getElem_cons_succ, List.getElem_cons_zero, Act.put, List.setIfInBounds_toArray, List.set_cons_zero, List.set_cons_succ]
        refine anyI_ready (rs := [3]) (by kernel_rfl) (by simp) ?_
        refine AllI.cons (by kernel_rfl) rfl (by rfl) (fun K hK => ?_) (AllI.nil)
        refine ⟨fun _ _ => trivial, ?_⟩
        go_simp
        refine hK.out _ _ (trivial) (fun hHeld => ?_)
        clear hK K
        try simp only [List.getElem_toArray, List.getElem_cons_succ, List.getElem_cons_zero, Act.put, List.setIfInBounds_toArray, List.set_cons_zero, List.set_cons_succ]
        refine anyI_ready (rs := [4]) (by kernel_rfl) (by simp) ?_
        refine AllI.cons (by kernel_rfl) rfl (by rfl) (fun K hK => ?_) (AllI.nil)
        refine ⟨fun _ _ => trivial, ?_⟩
        refine uponI_append (.tmp 16) (.tmp 19) 31 rfl _ _ _ rfl rfl Hrun.out ?_
        refine hK.out _ _ (trivial) (fun hHeld => ?_)
        clear hK K
        try simp only [List.getElem_toArray, List.getElem_cons_succ, List.getElem_cons_zero, Act.put, List.setIfInBounds_toArray, List.set_cons_zero, List.set_cons_succ]
        refine anyI_ready (rs := [5]) (by kernel_rfl) (by simp) ?_
        refine AllI.cons (by kernel_rfl) rfl (by rfl) (fun K hK => ?_) (AllI.nil)
        refine ⟨fun _ _ => trivial, ?_⟩
        go_simp
        refine hK.out _ _ (trivial) (fun hHeld => ?_)
        clear hK K
        try simp only [List.getElem_toArray, List.getElem_cons_succ, List.getElem_cons_zero, Act.put, List.setIfInBounds_toArray, List.set_cons_zero, List.set_cons_succ]
        refine anyI_done (by kernel_rfl) ?_ _
        gi_wp2
        exact Hfin.out
      · refine ⟨fun _ _ => trivial, ?_⟩
        go_simp
        refine hK.out _ _ (trivial) (fun hHeld => ?_)
        clear hK K
        try simp only [List.getElem_toArray, List.getElem_cons_succ, List.getElem_cons_zero, Act.put, List.setIfInBounds_toArray, List.set_cons_zero, List.set_cons_succ]
        refine anyI_ready (rs := [0]) (by kernel_rfl) (by simp) ?_
        refine AllI.cons (by kernel_rfl) rfl (by rfl) (fun K hK => ?_) (AllI.nil)
        refine ⟨fun _ _ => trivial, ?_⟩
        go_simp
        refine hK.out _ _ (trivial) (fun hHeld => ?_)
        clear hK K
        try simp only [List.getElem_toArray, List.getElem_cons_succ, List.getElem_cons_zero, Act.put, List.setIfInBounds_toArray, List.set_cons_zero, List.set_cons_succ]
        refine anyI_ready (rs := [4]) (by kernel_rfl) (by simp) ?_
        refine AllI.cons (by kernel_rfl) rfl (by rfl) (fun K hK => ?_) (AllI.nil)
        refine ⟨fun _ _ => trivial, ?_⟩
        refine uponI_append (.tmp 16) (.tmp 19) 31 rfl _ _ _ rfl rfl Hrun.out ?_
        refine hK.out _ _ (trivial) (fun hHeld => ?_)
        clear hK K
        try simp only [List.getElem_toArray, List.getElem_cons_succ, List.getElem_cons_zero, Act.put, List.setIfInBounds_toArray, List.set_cons_zero, List.set_cons_succ]
        refine anyI_ready (rs := [5]) (by kernel_rfl) (by simp) ?_
        refine AllI.cons (by kernel_rfl) rfl (by rfl) (fun K hK => ?_) (AllI.nil)
        refine ⟨fun _ _ => trivial, ?_⟩
        go_simp
        refine hK.out _ _ (trivial) (fun hHeld => ?_)
        clear hK K
        try simp only [List.getElem_toArray, List.getElem_cons_succ, List.getElem_cons_zero, Act.put, List.setIfInBounds_toArray, List.set_cons_zero, List.set_cons_succ]
        refine anyI_done (by kernel_rfl) ?_ _
        gi_wp2
        exact Hfin.out
end Go.Proofs.YtbkcclmhgnplcaaDoor
