/- A group-by: what it is, as mathematics; two cells of a row change places. -/
import Derived.Test.YtbkcclmhgnplcaaDoorSet
namespace Go.Proofs.YtbkcclmhgnplcaaDoor
open Go.RowKit Go.Shelf
def RiseC (l : List Cel) : Prop := l.Pairwise fun x y => cmpL x.key y.key < 0
theorem putC_rise (c : Cel) : ∀ (l : List Cel), RiseC l → RiseC (putC l c)
  | [], _ => by simp [putC, RiseC]
  | x :: l, h => by
    obtain ⟨h1, h2⟩ := List.pairwise_cons.1 h
    have ha := cmpL_anti x.key c.key
    simp only [putC]
    split
    · rename_i hlt
      refine List.pairwise_cons.2 ⟨fun y hy => ?_, putC_rise c l h2⟩
      rcases putC_keys c l y hy with e | ⟨z, hz, e⟩
      · rw [e]; exact hlt
      · rw [← e]; exact h1 z hz
    · split
      · exact List.pairwise_cons.2 ⟨h1, h2⟩
      · have hcx : cmpL c.key x.key < 0 := by omega
        exact List.pairwise_cons.2 ⟨fun y hy => by
          rcases List.mem_cons.1 hy with rfl | hy
          · exact hcx
          · exact cmpL_lt_of hcx (Int.le_of_lt (h1 y hy)), h⟩
theorem grp_rise : ∀ (l acc : List Cel), RiseC acc → RiseC (l.foldl putC acc)
  | [], _, h => h
  | x :: l, acc, h => grp_rise l (putC acc x) (putC_rise x acc h)
theorem grpR_rise (l : List Cel) : RiseC (grpR l) := grp_rise l [] (by simp [RiseC])
theorem grp_same : ∀ (l acc : List Cel), RiseC (acc ++ l) → l.foldl putC acc = acc ++ l
  | [], acc, _ => by simp
  | x :: l, acc, h => by
    have h1 : ∀ y ∈ acc, cmpL y.key x.key < 0 := fun y hy => (List.pairwise_append.1 h).2.2 y hy x (by simp)
    rw [List.foldl_cons, putC_end h1, grp_same l (acc ++ [x]) (by simpa using h)]
    simp
theorem grpR_again (l : List Cel) : grpR (grpR l) = grpR l := grp_same (grpR l) [] (by simpa using grpR_rise l)
theorem RiseC.at_ {l : List Cel} (h : RiseC l) {i : Nat} {x y : Cel} (hx : l[i]? = some x) (hy : l[i + 1]? = some y) : cmpL x.key y.key < 0 := by
  obtain ⟨i1, rfl⟩ := List.getElem?_eq_some_iff.1 hx
  obtain ⟨i2, rfl⟩ := List.getElem?_eq_some_iff.1 hy
  exact List.pairwise_iff_getElem.1 h i (i + 1) i1 i2 (by omega)
theorem putC_even {me : Nat} {c : Cel} (hc : EvenC me c) : ∀ (l : List Cel), (∀ x ∈ l, EvenC me x) → ∀ y ∈ putC l c, EvenC me y
  | [], _, y, hy => by simp only [putC, List.mem_singleton] at hy; rw [hy]; exact hc
  | x :: l, h, y, hy => by
    simp only [putC] at hy
    split at hy
    · rcases List.mem_cons.1 hy with rfl | hy
      · exact h _ (by simp)
      · exact putC_even hc l (fun z hz => h z (by simp [hz])) y hy
    · split at hy
      · rcases List.mem_cons.1 hy with rfl | hy
        · exact join2_even (h _ (by simp)) hc
        · exact h y (by simp [hy])
      · rcases List.mem_cons.1 hy with rfl | hy
        · exact hc
        · exact h y hy
theorem grp_even {me : Nat} : ∀ (l acc : List Cel), (∀ x ∈ acc, EvenC me x) → (∀ x ∈ l, EvenC me x) → ∀ y ∈ l.foldl putC acc, EvenC me y
  | [], _, h, _, y, hy => h y hy
  | x :: l, acc, h, h2, y, hy => grp_even l (putC acc x) (putC_even (h2 x (by simp)) acc h) (fun z hz => h2 z (by simp [hz])) y hy
theorem putC_lt (c : Cel) : ∀ (l : List Cel), (putC l c).length ≤ l.length + 1
  | [] => by simp [putC]
  | x :: l => by
    simp only [putC]
    split
    · have := putC_lt c l
      simp only [List.length_cons]; omega
    · split <;> simp
theorem grp_lt : ∀ (l acc : List Cel), (l.foldl putC acc).length ≤ acc.length + l.length
  | [], acc => by simp
  | x :: l, acc => by
    have h1 := grp_lt l (putC acc x)
    have h2 := putC_lt x acc
    simp only [List.foldl_cons, List.length_cons]; omega
def cnts (l : List Cel) : Int := (l.map Cel.cnt).sum
theorem cnts_cons (x : Cel) (l : List Cel) : cnts (x :: l) = x.cnt + cnts l := by simp [cnts]
theorem cnts_snoc (l : List Cel) (x : Cel) : cnts (l ++ [x]) = cnts l + x.cnt := by simp [cnts]
def PosC (l : List Cel) : Prop := ∀ x ∈ l, 0 ≤ x.cnt
theorem PosC.sum : ∀ {l : List Cel}, PosC l → 0 ≤ cnts l
  | [], _ => by simp [cnts]
  | x :: l, h => by
    rw [cnts_cons]
    have h1 := h x (by simp)
    have h2 := PosC.sum (l := l) (fun y hy => h y (by simp [hy]))
    omega
theorem putC_cnts {c : Cel} (hc : 0 ≤ c.cnt) : ∀ (l : List Cel), PosC l → cnts l + c.cnt ≤ 1000000 → PosC (putC l c) ∧ cnts (putC l c) = cnts l + c.cnt
  | [], _, _ => ⟨fun x hx => by simp only [putC, List.mem_singleton] at hx; rw [hx]; exact hc, by simp [putC, cnts]⟩
  | x :: l, h, hb => by
    have hx := h x (by simp)
    have hl : PosC l := fun y hy => h y (by simp [hy])
    have hs := hl.sum
    rw [cnts_cons] at hb
    simp only [putC]
    split
    · obtain ⟨h1, h2⟩ := putC_cnts hc l hl (by omega)
      refine ⟨fun y hy => ?_, by rw [cnts_cons, cnts_cons, h2]; omega⟩
      rcases List.mem_cons.1 hy with rfl | hy
      · exact hx
      · exact h1 y hy
    · split
      · have e : (join2 x c).cnt = x.cnt + c.cnt := by
          show wrap64 (x.cnt + c.cnt) = _
          unfold wrap64; omega
        refine ⟨fun y hy => ?_, by rw [cnts_cons, cnts_cons, e]; omega⟩
        rcases List.mem_cons.1 hy with rfl | hy
        · rw [e]; omega
        · exact hl y hy
      · refine ⟨fun y hy => ?_, by rw [cnts_cons, cnts_cons]; omega⟩
        rcases List.mem_cons.1 hy with rfl | hy
        · exact hc
        · exact h y hy
theorem grp_cnts : ∀ (l acc : List Cel), PosC acc → PosC l → cnts acc + cnts l ≤ 1000000 → PosC (l.foldl putC acc) ∧ cnts (l.foldl putC acc) = cnts acc + cnts l
  | [], acc, h, _, _ => ⟨h, by simp [cnts]⟩
  | x :: l, acc, h, hl, hb => by
    have hx := hl x (by simp)
    have hl' : PosC l := fun y hy => hl y (by simp [hy])
    have hs := hl'.sum
    rw [cnts_cons] at hb
    obtain ⟨h1, h2⟩ := putC_cnts hx acc h (by omega)
    obtain ⟨h3, h4⟩ := grp_cnts l (putC acc x) h1 hl' (by omega)
    exact ⟨h3, by rw [List.foldl_cons, h4, h2, cnts_cons]; omega⟩
theorem cnts_take : ∀ (l : List Cel) (i : Nat), PosC l → 0 ≤ cnts (l.take i) ∧ cnts (l.take i) ≤ cnts l
  | [], i, _ => by simp [cnts]
  | x :: l, 0, h => by
    have := PosC.sum h
    exact ⟨by simp [cnts], by simpa [cnts] using this⟩
  | x :: l, i + 1, h => by
    have hx := h x (by simp)
    obtain ⟨h1, h2⟩ := cnts_take l i (fun y hy => h y (by simp [hy]))
    rw [List.take_succ_cons, cnts_cons, cnts_cons]
    omega
theorem cnts_one {l : List Cel} (h : ∀ x ∈ l, x.cnt = 1) : cnts l = l.length := by
  induction l with
  | nil => simp [cnts]
  | cons x l ih =>
    rw [cnts_cons, ih (fun y hy => h y (by simp [hy])), h x (by simp)]
    simp only [List.length_cons]; omega
theorem flatV_cons (r : V5) (s : List V5) : flatV (r :: s) = r.a :: r.b :: r.c :: r.d :: r.e :: flatV s := by simp [flatV, V5.l]
theorem flatV_set : ∀ (us : List V5) (a : Nat) (q : V5), a < us.length → (((((flatV us).set (a * 5) q.a).set (a * 5 + 1) q.b).set (a * 5 + 2) q.c).set (a * 5 + 3) q.d).set (a * 5 + 4) q.e = flatV (us.set a q)
  | [], a, _, h => by simp at h
  | p :: t, 0, q, _ => by simp [flatV, V5.l]
  | p :: t, a + 1, q, h => by
    rw [List.set_cons_succ, flatV_cons, flatV_cons, ← flatV_set t a q (by simpa using h),
      show (a + 1) * 5 = a * 5 + 1 + 1 + 1 + 1 + 1 from by omega,
      show a * 5 + 1 + 1 + 1 + 1 + 1 + 2 = a * 5 + 2 + 1 + 1 + 1 + 1 + 1 from by omega,
      show a * 5 + 1 + 1 + 1 + 1 + 1 + 3 = a * 5 + 3 + 1 + 1 + 1 + 1 + 1 from by omega,
      show a * 5 + 1 + 1 + 1 + 1 + 1 + 4 = a * 5 + 4 + 1 + 1 + 1 + 1 + 1 from by omega]
    simp only [List.set_cons_succ]
theorem flatV_five {us : List V5} {i : Nat} {u : V5} (h : us[i]? = some u) : (flatV us)[i * 5]? = some u.a ∧ (flatV us)[i * 5 + 1]? = some u.b ∧ (flatV us)[i * 5 + 2]? = some u.c ∧ (flatV us)[i * 5 + 3]? = some u.d ∧ (flatV us)[i * 5 + 4]? = some u.e := by
  induction us generalizing i with
  | nil => simp at h
  | cons p t ih =>
    rw [flatV_cons]
    cases i with
    | zero =>
      simp only [List.getElem?_cons_zero, Option.some.injEq] at h
      subst h
      simp
    | succ i =>
      obtain ⟨h1, h2, h3, h4, h5⟩ := ih (i := i) (by simpa using h)
      rw [show (i + 1) * 5 = i * 5 + 1 + 1 + 1 + 1 + 1 from by omega,
        show i * 5 + 1 + 1 + 1 + 1 + 1 + 2 = i * 5 + 2 + 1 + 1 + 1 + 1 + 1 from by omega,
        show i * 5 + 1 + 1 + 1 + 1 + 1 + 3 = i * 5 + 3 + 1 + 1 + 1 + 1 + 1 from by omega,
        show i * 5 + 1 + 1 + 1 + 1 + 1 + 4 = i * 5 + 4 + 1 + 1 + 1 + 1 + 1 from by omega]
      simp only [List.getElem?_cons_succ]
      exact ⟨h1, h2, h3, h4, h5⟩
/-- Five values are written. -/
def setF (W : World) (g a : Nat) (q : V5) : World := ((((W.setCell ⟨g, a * 5, none⟩ q.a).setCell ⟨g, a * 5 + 1, none⟩ q.b).setCell ⟨g, a * 5 + 2, none⟩ q.c).setCell ⟨g, a * 5 + 3, none⟩ q.d).setCell ⟨g, a * 5 + 4, none⟩ q.e
theorem setF_bel {B g a : Nat} {W X : World} {q : V5} (h : Below B W X) (hg : B ≤ g) : Below B W (setF X g a q) := ((((h.setCell hg _).setCell hg _).setCell hg _).setCell hg _).setCell hg _
theorem OI.farC {B B' g i n : Nat} {X : World} {v z : Value} {w : Value} {xs : List Int} {ys : List Value} (h : OI B X w xs) (ho : X.ownsRow B' 33 5 v n ys) (hg : v.ownBlock = some g) : OI B (X.setCell ⟨g, i, none⟩ z) w xs :=
  ⟨own_stay h.1 fun k hk => Below.heap_setCell _ _ _ _ (fun e => by
    rcases own_apart h.1 ho (by decide) with h0 | h0
    · rw [h0] at hk; cases hk
    · exact h0 (by rw [hk, hg, e])), h.2⟩
theorem GRs.setF {B g c a : Nat} {X : World} {us : List V5} {J : List Cel} {q : V5} {x : Cel} (h : GRs B X (.slice (some ⟨g, 0, none⟩) us.length c) us J) (hq : OwnC B X q x) (ha : a < us.length) :
    GRs B (setF X g a q) (.slice (some ⟨g, 0, none⟩) us.length c) (us.set a q) (J.set a x) ∧ (∀ (u : V5) (y : Cel), OwnC B X u y → OwnC B (Go.Proofs.YtbkcclmhgnplcaaDoor.setF X g a q) u y) := by
  have hb : (Value.slice (some ⟨g, 0, none⟩) us.length c).ownBlock = some g := rfl
  have h0 := h.1
  have s1 := (h0.stored (a * 5) q.a).1
  have s2 := (s1.stored (a * 5 + 1) q.b).1
  have s3 := (s2.stored (a * 5 + 2) q.c).1
  have s4 := (s3.stored (a * 5 + 3) q.d).1
  have s5 := (s4.stored (a * 5 + 4) q.e).1
  rw [flatV_set us a q ha] at s5
  have stay : ∀ {w : Value} {xs : List Int}, OI B X w xs → OI B (Go.Proofs.YtbkcclmhgnplcaaDoor.setF X g a q) w xs := fun o =>
    ((((o.farC h0 hb).farC s1 hb).farC s2 hb).farC s3 hb).farC s4 hb
  have hq' := hq.stay (fun o => stay o)
  have hl := h.2.stay (fun o => stay o)
  refine ⟨⟨by rw [List.length_set]; exact s5, by rw [List.length_set, List.length_set]; exact hl.1, fun i u y hu hy => ?_⟩, fun u y hu => hu.stay fun o => stay o⟩
  by_cases e : i = a
  · subst e
    rw [List.getElem?_set_self ha] at hu
    rw [List.getElem?_set_self (by rw [← h.2.1]; exact ha)] at hy
    injection hu with hu
    injection hy with hy
    rw [← hu, ← hy]
    exact hq'
  · rw [List.getElem?_set_ne (by omega)] at hu hy
    exact hl.2 i u y hu hy
/-- Two cells of a row of the call's own change places. -/
theorem GRs.swap {B g c a b : Nat} {X : World} {us : List V5} {J : List Cel} {x y : Cel} (h : GRs B X (.slice (some ⟨g, 0, none⟩) us.length c) us J) (ha : J[a]? = some x) (hb : J[b]? = some y) :
    ∃ p q : V5, OwnC B X p x ∧ OwnC B X q y ∧ (X.cell? ⟨g, a * 5, none⟩ = some p.a ∧ X.cell? ⟨g, a * 5 + 1, none⟩ = some p.b ∧ X.cell? ⟨g, a * 5 + 2, none⟩ = some p.c ∧ X.cell? ⟨g, a * 5 + 3, none⟩ = some p.d ∧ X.cell? ⟨g, a * 5 + 4, none⟩ = some p.e) ∧
      (X.cell? ⟨g, b * 5, none⟩ = some q.a ∧ X.cell? ⟨g, b * 5 + 1, none⟩ = some q.b ∧ X.cell? ⟨g, b * 5 + 2, none⟩ = some q.c ∧ X.cell? ⟨g, b * 5 + 3, none⟩ = some q.d ∧ X.cell? ⟨g, b * 5 + 4, none⟩ = some q.e) ∧
      (∀ j, X.frozen? ⟨g, j, none⟩ = false) ∧
      ((∃ u, (X.setCell ⟨g, a * 5, none⟩ q.a).cell? ⟨g, b * 5, none⟩ = some u) ∧ (∃ u, ((X.setCell ⟨g, a * 5, none⟩ q.a).setCell ⟨g, a * 5 + 1, none⟩ q.b).cell? ⟨g, b * 5 + 1, none⟩ = some u) ∧ (∃ u, (((X.setCell ⟨g, a * 5, none⟩ q.a).setCell ⟨g, a * 5 + 1, none⟩ q.b).setCell ⟨g, a * 5 + 2, none⟩ q.c).cell? ⟨g, b * 5 + 2, none⟩ = some u) ∧ (∃ u, ((((X.setCell ⟨g, a * 5, none⟩ q.a).setCell ⟨g, a * 5 + 1, none⟩ q.b).setCell ⟨g, a * 5 + 2, none⟩ q.c).setCell ⟨g, a * 5 + 3, none⟩ q.d).cell? ⟨g, b * 5 + 3, none⟩ = some u) ∧ (∃ u, (((((X.setCell ⟨g, a * 5, none⟩ q.a).setCell ⟨g, a * 5 + 1, none⟩ q.b).setCell ⟨g, a * 5 + 2, none⟩ q.c).setCell ⟨g, a * 5 + 3, none⟩ q.d).setCell ⟨g, a * 5 + 4, none⟩ q.e).cell? ⟨g, b * 5 + 4, none⟩ = some u)) ∧
      GRs B (Go.Proofs.YtbkcclmhgnplcaaDoor.setF (Go.Proofs.YtbkcclmhgnplcaaDoor.setF X g a q) g b p) (.slice (some ⟨g, 0, none⟩) us.length c) ((us.set a q).set b p) ((J.set a y).set b x) := by
  have hal : a < us.length := by rw [h.2.1]; exact (List.getElem?_eq_some_iff.1 ha).1
  have hbl : b < us.length := by rw [h.2.1]; exact (List.getElem?_eq_some_iff.1 hb).1
  obtain ⟨p, hp⟩ : ∃ p, us[a]? = some p := ⟨_, List.getElem?_eq_getElem hal⟩
  obtain ⟨q, hq⟩ : ∃ q, us[b]? = some q := ⟨_, List.getElem?_eq_getElem hbl⟩
  have hpo := h.2.2 a p x hp ha
  have hqo := h.2.2 b q y hq hb
  have cell : ∀ (Y : World) (ws : List V5) (K : List Cel), ∀ n, GRs B Y (.slice (some ⟨g, 0, none⟩) n c) ws K → ∀ j u, (flatV ws)[j]? = some u → Y.cell? ⟨g, j, none⟩ = some u := fun Y ws K n hY j u hu => by
    obtain ⟨P, c', e, -, -, h2, -⟩ := hY.form
    have hw : 0 < ws.length := by
      rcases Nat.eq_zero_or_pos ws.length with z | z
      · rw [List.length_eq_zero_iff] at z; subst z; simp [flatV] at hu
      · exact z
    obtain ⟨g', rfl, -, -, -, h3⟩ := h2 hw
    injection e with e1 _ _
    injection e1 with e1
    injection e1 with e1
    rw [e1]
    exact h3 j u hu
  obtain ⟨c0, c1, c2, c3, c4⟩ := flatV_five hp
  obtain ⟨d0, d1, d2, d3, d4⟩ := flatV_five hq
  obtain ⟨s1, k1⟩ := h.setF (a := a) hqo hal
  have s1' := s1
  rw [show us.length = (us.set a q).length from by rw [List.length_set]] at s1'
  obtain ⟨s2, -⟩ := s1'.setF (a := b) (k1 p x hpo) (by rw [List.length_set]; exact hbl)
  rw [List.length_set] at s2
  have v1 := (h.1.stored (a * 5) q.a).1
  have v2 := (v1.stored (a * 5 + 1) q.b).1
  have v3 := (v2.stored (a * 5 + 2) q.c).1
  have v4 := (v3.stored (a * 5 + 3) q.d).1
  have v5 := (v4.stored (a * 5 + 4) q.e).1
  refine ⟨p, q, hpo, hqo, ⟨cell _ _ _ _ h _ _ c0, cell _ _ _ _ h _ _ c1, cell _ _ _ _ h _ _ c2, cell _ _ _ _ h _ _ c3, cell _ _ _ _ h _ _ c4⟩, ⟨cell _ _ _ _ h _ _ d0, cell _ _ _ _ h _ _ d1, cell _ _ _ _ h _ _ d2, cell _ _ _ _ h _ _ d3, cell _ _ _ _ h _ _ d4⟩, fun j => World.ownsRow.frozenAt h.1 j, ⟨?_, ?_, ?_, ?_, ?_⟩, s2⟩
  · exact ⟨_, (World.ownsRow.cellAt v1 (b * 5) (by omega)).trans (List.getElem?_eq_getElem (by simp only [List.length_set, flatV_len]; omega))⟩
  · exact ⟨_, (World.ownsRow.cellAt v2 (b * 5 + 1) (by omega)).trans (List.getElem?_eq_getElem (by simp only [List.length_set, flatV_len]; omega))⟩
  · exact ⟨_, (World.ownsRow.cellAt v3 (b * 5 + 2) (by omega)).trans (List.getElem?_eq_getElem (by simp only [List.length_set, flatV_len]; omega))⟩
  · exact ⟨_, (World.ownsRow.cellAt v4 (b * 5 + 3) (by omega)).trans (List.getElem?_eq_getElem (by simp only [List.length_set, flatV_len]; omega))⟩
  · exact ⟨_, (World.ownsRow.cellAt v5 (b * 5 + 4) (by omega)).trans (List.getElem?_eq_getElem (by simp only [List.length_set, flatV_len]; omega))⟩

theorem swap_perm {α : Type} {l : List α} {a b : Nat} {x y : α} (ha : l[a]? = some x) (hb : l[b]? = some y) : ((l.set a y).set b x).Perm l := by
  obtain ⟨h1, rfl⟩ := List.getElem?_eq_some_iff.1 ha
  obtain ⟨h2, rfl⟩ := List.getElem?_eq_some_iff.1 hb
  exact List.set_set_perm h1 h2
theorem lit_cells {B m c : Nat} {W : World} {P : Option Addr} {us : List V5} {L : List Cel} (h : GRs B W (.slice P m c) us L) (hl : m ≤ 1000000) (hB : B ≤ W.heap.size) :
    ∃ g c' W', (Builtin.append_ #[31, 31] 31 #[.slice (some ⟨W.heap.size, 0, none⟩) 0 0, .slice P m c]).run Tryd.prog (W.alloc (.cells #[] 33)) = .ok (.slice (some ⟨g, 0, none⟩) m c') W' ∧ W.heap.size ≤ g ∧ GRs B W' (.slice (some ⟨g, 0, none⟩) m c') us L ∧ Below W.heap.size W W' := by
  obtain ⟨i0, hi, hz0, hz1, hz2⟩ := info_parts infoC
  have hlit : (W.alloc (.cells #[] 33)).ownsRow W.heap.size 33 5 (.slice (some ⟨W.heap.size, 0, none⟩) 0 0) 0 [] := World.ownsRow_made W #[] 0 (Nat.le_refl _) (by simp [maxLen]) (by simp)
  have hb : Below W.heap.size W (W.alloc (.cells #[] 33)) := (Below.refl _ _).alloc (Nat.le_refl _) _
  obtain ⟨P', c', e, -, -, h2, h3⟩ := h.form
  injection e with e1 e2 e3
  subst e1 e2 e3
  rcases Nat.eq_zero_or_pos us.length with hz | hz
  · have he : us = [] := List.length_eq_zero_iff.1 hz
    subst he
    have hL : L = [] := List.length_eq_zero_iff.1 (by rw [← h.len]; rfl)
    subst hL
    refine ⟨W.heap.size, 0, _, ?_, Nat.le_refl _, ⟨own_mono hlit hB, rfl, fun i u x hu => by simp at hu⟩, hb⟩
    cases P with
    | none =>
      obtain rfl := h3 rfl
      exact run_append_nothing (P := Tryd.prog) _ 31 31 31 33 i0 Tryd.underlying31 hi _ 0 0 (Nat.le_refl _) (.slice none 0 0) (Src.ofNil _ Tryd.underlying31 0)
    | some ad => exact run_append_nothing (P := Tryd.prog) _ 31 31 31 33 i0 Tryd.underlying31 hi _ 0 0 (Nat.le_refl _) (.slice (some ad) 0 c) (Src.ofSlice _ Tryd.underlying31 ad 0 c [] (by simp) (fun j u h => by simp at h) (fun u h => by cases h))
  · obtain ⟨g0, rfl, -, -, -, h4⟩ := h2 hz
    obtain ⟨v', W', hrun, ho, hgr, _⟩ := run_append_own_at (P := Tryd.prog) (W.alloc (.cells #[] 33)) W.heap.size 31 31 33 i0 _ 5 104 Tryd.underlying31 hi hz0 hz1 hz2 rfl (by omega) _ 0 [] hlit ⟨g0, 0, none⟩ us.length c (flatV us) (flatV_len us)
      (fun j u hu => (Keeps.of_below hb) _ _ (by rw [add0]; exact h4 j u hu)) h.2.reads.one (by simp [maxLen]; omega) (by omega) hb.size
    rw [Nat.zero_add, List.nil_append] at ho
    have hbw : Below W.heap.size W W' := hb.grown hgr hb.size fun j e => (hlit.lt j e).1
    obtain ⟨P2, c2, hv, -, -, h5⟩ := own_form ho
    obtain ⟨g, rfl, h6, -⟩ := h5 hz
    subst hv
    exact ⟨g, c2, W', hrun, h6, ⟨own_mono ho hB, (h.2.below hb).stay fun o => o.rowC hlit hgr⟩, hbw⟩
end Go.Proofs.YtbkcclmhgnplcaaDoor
