/- Package hash: a part is grouped, or taken apart: what is handed about. -/
import Derived.Test.YtioddfodajinlaaHshg
import Derived.Test.YtioddfodajinlaaHshe
import Derived.Test.YtioddfodajinlaaHshR
namespace Go.Proofs.Ytioddfodajinlaa
open Go.RowKit
theorem fill_snoc : ∀ (l : List Cel) (ts : List (Option Cel)) (c : Cel), fillT ts (l ++ [c]) = (fillT ts l).bind fun ts' => putT ts' c
  | [], ts, c => by
    simp only [List.nil_append, fillT, Option.bind_some]
    cases putT ts c <;> rfl
  | x :: l, ts, c => by
    simp only [List.cons_append, fillT]
    cases h : putT ts x with
    | none => rfl
    | some t => exact fill_snoc l t c
theorem fill_stop : ∀ (l l' : List Cel) (ts : List (Option Cel)), fillT ts l = none → fillT ts (l ++ l') = none
  | [], _, ts, h => by simp [fillT] at h
  | x :: l, l', ts, h => by
    simp only [List.cons_append, fillT] at h ⊢
    cases hx : putT ts x with
    | none => rfl
    | some t => rw [hx] at h; exact fill_stop l l' t h
theorem parts_fit {slots f a : Nat} {l : List Cel} (h : (grpR l).length ≤ slots) : partsP slots f a l = [grpR l] := by
  cases f with
  | zero => rfl
  | succ f => unfold partsP; rw [if_pos h]
theorem grp_len_le (l : List Cel) : (grpR l).length ≤ l.length := by have := grp_lt l []; simpa [grpR] using this
theorem flat_len_ge : ∀ {ps : List (List Cel)}, (∀ p ∈ ps, 1 ≤ p.length) → ps.length ≤ ps.flatten.length
  | [], _ => Nat.le_refl _
  | p :: ps, h => by
    have h1 := flat_len_ge (ps := ps) fun q hq => h q (by simp [hq])
    have h2 := h p (by simp)
    rw [List.flatten_cons, List.length_append, List.length_cons]
    omega
theorem parts_len {slots d f a : Nat} {l : List Cel} (hs : 1 ≤ slots) (hd : a + f = d) (h : Fit d a l) (hne : l ≠ []) : (partsP slots f a l).length ≤ l.length := by
  have h1 := flat_len_ge (fun p hp => (parts_each slots d hs f a l hd h hne p hp).1)
  rw [parts_flat slots d f a l hd h] at h1
  exact Nat.le_trans h1 (grp_len_le l)
/-- A stretch of a row. -/
def seg (D : List (V5 × Cel)) (s n : Nat) : List (V5 × Cel) := (D.drop s).take n
theorem seg_len {D : List (V5 × Cel)} {s n : Nat} (h : s + n ≤ D.length) : (seg D s n).length = n := by unfold seg; rw [List.length_take, List.length_drop]; omega
theorem flatV_drop5 : ∀ (vs : List V5) (s j : Nat), (flatV (vs.drop s))[j]? = (flatV vs)[s * 5 + j]?
  | vs, 0, j => by simp
  | [], s + 1, j => by simp [flatV]
  | v :: vs, s + 1, j => by
    rw [List.drop_succ_cons, flatV_drop5 vs s j]
    show _ = (flatV (v :: vs))[(s + 1) * 5 + j]?
    rw [show flatV (v :: vs) = v.l ++ flatV vs from by simp [flatV], List.getElem?_append_right (by simp [V5.l]; omega)]
    congr 1
    simp [V5.l]
    omega
theorem flatV_take5 (vs : List V5) (n j : Nat) (u : Value) (h : (flatV (vs.take n))[j]? = some u) : (flatV vs)[j]? = some u := by
  have e : flatV vs = flatV (vs.take n) ++ flatV (vs.drop n) := by rw [← flatV_append, List.take_append_drop]
  rw [e, List.getElem?_append_left (List.getElem?_eq_some_iff.1 h).1]
  exact h
theorem HoldsL.seg {w : World} {blk : Nat} {D : List (V5 × Cel)} (h : HoldsL w blk 0 (D.map (·.1))) (s n : Nat) : HoldsL w blk (s * 5) ((seg D s n).map (·.1)) := fun j u hu => by
  unfold Go.Proofs.Ytioddfodajinlaa.seg at hu
  rw [List.map_take, List.map_drop] at hu
  have h1 := flatV_take5 _ _ _ _ hu
  rw [flatV_drop5] at h1
  have := h _ u h1
  rwa [Nat.zero_add] at this
/-- A stretch is laid anew, the rest stays. -/
def spl3 (D mid : List (V5 × Cel)) (s n : Nat) : List (V5 × Cel) := D.take s ++ mid ++ D.drop (s + n)
theorem spl3_perm {D mid : List (V5 × Cel)} {s n : Nat} (h : mid.Perm (seg D s n)) : (spl3 D mid s n).Perm D := by
  have e : D = D.take s ++ seg D s n ++ D.drop (s + n) := by
    unfold seg
    rw [List.append_assoc, ← List.drop_drop, List.take_append_drop, List.take_append_drop]
  unfold spl3
  conv => rhs; rw [e]
  exact ((List.Perm.refl _).append h).append (List.Perm.refl _)
theorem spl3_take {D mid : List (V5 × Cel)} {s n : Nat} (h : s ≤ D.length) : (spl3 D mid s n).take s = D.take s := by
  unfold spl3
  rw [List.append_assoc, List.take_append_of_le_length (by rw [List.length_take]; omega), List.take_of_length_le (by rw [List.length_take]; omega)]
theorem spl3_drop {D mid : List (V5 × Cel)} {s n : Nat} (hm : mid.length = n) (h : s + n ≤ D.length) : (spl3 D mid s n).drop (s + n) = D.drop (s + n) := by
  unfold spl3
  rw [List.drop_append_of_le_length (by rw [List.length_append, List.length_take, hm]; omega), List.drop_of_length_le (by rw [List.length_append, List.length_take, hm]; omega)]
  rfl
theorem spl3_seg {D mid : List (V5 × Cel)} {s n : Nat} (hm : mid.length = n) (h : s + n ≤ D.length) : seg (spl3 D mid s n) s n = mid := by
  unfold seg spl3
  rw [List.append_assoc, List.drop_append_of_le_length (by rw [List.length_take]; omega), List.drop_of_length_le (by rw [List.length_take]; omega), List.nil_append, List.take_append_of_le_length (by omega), List.take_of_length_le (by omega)]
theorem HoldsL.splice {w w' : World} {blk s n : Nat} {D mid : List (V5 × Cel)} (h : HoldsL w blk 0 (D.map (·.1))) (hm : mid.length = n) (hn : s + n ≤ D.length) (hl : HoldsL w' blk (s * 5) (mid.map (·.1))) (he : Else blk (s * 5) n w w') : HoldsL w' blk 0 ((spl3 D mid s n).map (·.1)) := fun j u hu => by
  rw [Nat.zero_add]
  have old : ∀ v, (flatV (D.map (·.1)))[j]? = some v → (j < s * 5 ∨ s * 5 + n * 5 ≤ j) → w'.cell? ⟨blk, j, none⟩ = some v ∧ w'.frozen? ⟨blk, j, none⟩ = false := fun v hv hc => by
    obtain ⟨h1, h2⟩ := h j v hv
    rw [Nat.zero_add] at h1 h2
    obtain ⟨e1, e2⟩ := he ⟨blk, j, none⟩ (block_lt h1) (.inr hc)
    exact ⟨e1.trans h1, e2.trans h2⟩
  have e : (spl3 D mid s n).map (·.1) = (D.map (·.1)).take s ++ mid.map (·.1) ++ (D.map (·.1)).drop (s + n) := by unfold spl3; simp
  rw [e, flatV_append, flatV_append] at hu
  have l1 : (flatV ((D.map (·.1)).take s)).length = s * 5 := by rw [flatV_len, List.length_take, List.length_map, Nat.min_eq_left (by omega)]
  have l2 : (flatV (mid.map (·.1))).length = n * 5 := by rw [flatV_len, List.length_map, hm]
  rcases Nat.lt_or_ge j (s * 5) with c | c
  · rw [List.append_assoc, List.getElem?_append_left (by omega)] at hu
    exact old u (flatV_take5 _ _ _ _ hu) (.inl c)
  · rcases Nat.lt_or_ge j (s * 5 + n * 5) with c2 | c2
    · rw [List.getElem?_append_left (by rw [List.length_append]; omega), List.getElem?_append_right (by omega), l1] at hu
      have := hl _ u hu
      rwa [show s * 5 + (j - s * 5) = j by omega] at this
    · rw [List.getElem?_append_right (by rw [List.length_append]; omega), List.length_append, l1, l2, flatV_drop5, show (s + n) * 5 + (j - (s * 5 + n * 5)) = j by omega] at hu
      exact old u hu (.inr c2)
/-- What a row of cells that is to be grouped is. -/
structure PIn (w0 : World) (dd mm : Nat) (D : List (V5 × Cel)) : Prop where
  rd : ∀ p ∈ D, Reads w0 p.1 p.2 ∧ p.2.key.length = dd
  ev : ∀ p ∈ D, EvenC mm p.2
theorem PIn.perm {w0 : World} {dd mm : Nat} {D D' : List (V5 × Cel)} (h : PIn w0 dd mm D) (hp : D'.Perm D) : PIn w0 dd mm D' := ⟨fun p hm => h.rd p (hp.mem_iff.1 hm), fun p hm => h.ev p (hp.mem_iff.1 hm)⟩
/-- What grouping a part leaves. -/
def AddPost (B G blk s n a f slots parts : Nat) (D : List (V5 × Cel)) (outv : Value) (J : List Cel) (w : World) (e : Ending) (w' : World) : Prop :=
  (∃ v, e = .returned v) ∧ ∃ (outv' : Value) (us' : List V5) (D' : List (V5 × Cel)), Gs B w' G slots outv' us' (J ++ (partsP slots f a ((seg D s n).map (·.2))).flatten) (parts + (partsP slots f a ((seg D s n).map (·.2))).length) ∧ OutRel outv w outv' ∧ Tch (fun b => b = G ∨ b = blk ∨ outv.ownBlock = some b) w w' ∧ HoldsL w' blk 0 (D'.map (·.1)) ∧ TyC w' blk ∧ D'.Perm D ∧ D'.take s = D.take s ∧ D'.drop (s + n) = D.drop (s + n)
def AddSpec (F : Nat) : Prop := ∀ (w0 w : World) (blk G s n c a f dd mm slots parts : Nat) (D : List (V5 × Cel)) (outv : Value) (us : List V5) (J : List Cel), f < F → a + f = dd → dd ≤ 1000 → mm ≤ 1000000 → 1 ≤ slots → slots ≤ 10000 → PIn w0 dd mm D → Fit dd a ((seg D s n).map (·.2)) → s + n ≤ D.length → D.length ≤ 60 → n ≤ c → 1 ≤ n → Keeps w0 w → w0.heap.size ≤ blk → HoldsL w blk 0 (D.map (·.1)) → TyC w blk → Gs w0.heap.size w G slots outv us J parts → blk ≠ G → outv.ownBlock ≠ some blk → J.length + n ≤ 100000 → parts + n ≤ 100000 →
  Calls Try.prog 43 #[.pointer (some ⟨G, 0, none⟩), .agg #[.slice (some ⟨blk, s * 5, none⟩) n c, .int .i64 a]] w fun e w' => AddPost w0.heap.size G blk s n a f slots parts D outv J w e w'
end Go.Proofs.Ytioddfodajinlaa
/- Package hash: the parts of a part, one after the other. -/
namespace Go.Proofs.Ytioddfodajinlaa
open Go.RowKit
theorem HoldsL.below {w w' : World} {blk off : Nat} {vs : List V5} (h : HoldsL w blk off vs) (hb : Below w.heap.size w w') : HoldsL w' blk off vs := fun j u hu => by
  have hl := block_lt (h j u hu).1
  exact ⟨by rw [hb.cell (by exact hl)]; exact (h j u hu).1, by rw [hb.frozen (by exact hl)]; exact (h j u hu).2⟩
theorem runs_fit {d a : Nat} {l : List Cel} (h : Fit d a l) (hb : a < d) (hr : RiseV a l) : ∀ p ∈ runsK a l.length l, Fit d (a + 1) p ∧ p ≠ [] := fun p hp => by
  rw [runs_by a 16 l.length 0 l (Nat.le_refl _) rfl hr (fun x hx => by have := valK_in h hb hx; omega)] at hp
  obtain ⟨h1, h2⟩ := List.mem_filter.1 hp
  obtain ⟨v, -, rfl⟩ := List.mem_map.1 h1
  refine ⟨h.by hb, fun e => ?_⟩
  rw [e] at h2
  cases h2
theorem rowP_at (blk off c : Nat) (q : Int) : ∀ (ns : List Nat) (s0 k m : Nat), ns[k]? = some m → (rowP blk off c q s0 ns)[k * 2]? = some (.slice (some ⟨blk, off + (s0 + (ns.take k).sum) * 5, none⟩) m (c - (s0 + (ns.take k).sum))) ∧ (rowP blk off c q s0 ns)[k * 2 + 1]? = some (.int .i64 q)
  | [], _, _, _, h => by simp at h
  | n :: ns, s0, 0, m, h => by
    simp only [List.getElem?_cons_zero, Option.some.injEq] at h
    subst h
    simp [rowP]
  | n :: ns, s0, k + 1, m, h => by
    rw [List.getElem?_cons_succ] at h
    obtain ⟨h1, h2⟩ := rowP_at blk off c q ns (s0 + n) k m h
    rw [show (k + 1) * 2 = k * 2 + 1 + 1 by omega]
    simp only [rowP, List.getElem?_cons_succ, List.take_succ_cons, List.sum_cons]
    rw [h1, h2, Nat.add_assoc]
    exact ⟨rfl, rfl⟩
theorem cuts_len (ns : List Nat) : ∀ L : List Cel, (cuts ns L).length = ns.length := by
  induction ns with
  | nil => intro L; rfl
  | cons n ns ih => intro L; simp [cuts, ih]
theorem cuts_flat : ∀ (ns : List Nat) (L : List Cel), (cuts ns L).flatten.length ≤ ns.sum
  | [], _ => Nat.le_refl _
  | n :: ns, L => by
    have := cuts_flat ns (L.drop n)
    simp only [cuts, List.flatten_cons, List.length_append, List.length_take, List.sum_cons]
    omega
theorem cuts_take : ∀ (k : Nat) (ns : List Nat) (L : List Cel), cuts (ns.take k) L = (cuts ns L).take k
  | 0, _, _ => by simp [cuts]
  | k + 1, [], _ => by simp [cuts]
  | k + 1, n :: ns, L => by simp [cuts, cuts_take k ns (L.drop n)]
theorem cuts_at : ∀ (ns : List Nat) (L : List Cel) (k m : Nat), ns[k]? = some m → (cuts ns L)[k]? = some ((L.drop (ns.take k).sum).take m)
  | [], _, _, _, h => by simp at h
  | n :: ns, L, 0, m, h => by
    simp only [List.getElem?_cons_zero, Option.some.injEq] at h
    subst h
    simp [cuts]
  | n :: ns, L, k + 1, m, h => by
    rw [List.getElem?_cons_succ] at h
    have := cuts_at ns (L.drop n) k m h
    simp only [cuts, List.getElem?_cons_succ, List.take_succ_cons, List.sum_cons, this, List.drop_drop]
theorem sum_take : ∀ (ns : List Nat) (k m : Nat), ns[k]? = some m → (ns.take (k + 1)).sum = (ns.take k).sum + m
  | ns, k, m, h => by rw [List.take_add_one, h, Option.toList_some, List.sum_append]; simp
theorem sum_take_le : ∀ (ns : List Nat) (k : Nat), (ns.take k).sum ≤ ns.sum
  | [], k => by simp
  | n :: ns, 0 => by simp
  | n :: ns, k + 1 => by have := sum_take_le ns k; simp only [List.take_succ_cons, List.sum_cons]; omega
/-- All parts of some pieces: no more than cells. -/
theorem pieces_le {slots d f a : Nat} (hs : 1 ≤ slots) (hd : a + f = d) : ∀ ps : List (List Cel), (∀ p ∈ ps, Fit d a p ∧ p ≠ []) → (ps.flatMap (partsP slots f a)).length ≤ ps.flatten.length ∧ (ps.flatMap (partsP slots f a)).flatten.length ≤ ps.flatten.length
  | [], _ => ⟨Nat.le_refl _, Nat.le_refl _⟩
  | p :: ps, h => by
    obtain ⟨h1, h2⟩ := pieces_le hs hd ps fun q hq => h q (by simp [hq])
    obtain ⟨h3, h4⟩ := h p (by simp)
    have h5 := parts_len hs hd h3 h4
    have h6 := grp_len_le p
    rw [List.flatMap_cons, List.flatten_append, List.flatten_cons, List.length_append, List.length_append, List.length_append, parts_flat slots d f a p hd h3]
    omega
theorem seg_in {D mid : List (V5 × Cel)} {s n sk m : Nat} (hm : mid.length = n) (hs : s + n ≤ D.length) (hk : sk + m ≤ n) : seg (spl3 D mid s n) (s + sk) m = (mid.drop sk).take m := by
  unfold seg spl3
  rw [List.append_assoc, ← List.drop_drop, List.drop_append_of_le_length (by rw [List.length_take]; omega), List.drop_of_length_le (l := D.take s) (by rw [List.length_take]; omega), List.nil_append, List.drop_append_of_le_length (by omega), List.take_append_of_le_length (by rw [List.length_drop]; omega)]
theorem seg_drop {D D' : List (V5 × Cel)} {s n : Nat} (h : D'.drop s = D.drop s) : seg D' s n = seg D s n := by unfold seg; rw [h]
theorem take_less {D D' : List (V5 × Cel)} {s t : Nat} (h : D'.take t = D.take t) (hs : s ≤ t) : D'.take s = D.take s := by
  have := congrArg (List.take s) h
  rwa [List.take_take, List.take_take, Nat.min_eq_left hs] at this
theorem drop_more {D D' : List (V5 × Cel)} {s t : Nat} (h : D'.drop s = D.drop s) (hs : s ≤ t) : D'.drop t = D.drop t := by
  have := congrArg (List.drop (t - s)) h
  rwa [List.drop_drop, List.drop_drop, show s + (t - s) = t by omega] at this
end Go.Proofs.Ytioddfodajinlaa
