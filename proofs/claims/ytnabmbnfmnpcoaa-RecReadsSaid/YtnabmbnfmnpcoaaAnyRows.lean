/- Four slices of bytes that one statement grows, step by step, in whatever order the steps come: what is known behind all of them. -/
import Derived.Test.YtnabmbnfmnpcoaaAnyLst
namespace Go.Proofs.Ytnabmbnfmnpcoaa
open Go.RowKit

/-- No block of theirs is one. -/
def Ap (v u : Value) : Prop := ∀ k, v.ownBlock = some k → u.ownBlock ≠ some k
theorem Ap.symm {v u : Value} (h : Ap v u) : Ap u v := fun k h1 h2 => h k h2 h1
theorem Ap.ne {B N : Nat} {w : World} {v u : Value} (h : Ap v u) (hu : Gs B N w u) : u.ownBlock ≠ v.ownBlock := by
  obtain ⟨k, hk, _⟩ := hu.lt
  intro e
  exact h k (e ▸ hk) hk
structure Bag (B N : Nat) (w0 w : World) (l : List Value) : Prop where
  bel : Below B w0 w
  low : B ≤ w.heap.size
  all : ∀ v ∈ l, Gs B N w v
  ap : l.Pairwise Ap
section
variable {B N : Nat} {w0 w w' : World} {v : Value} {l l' : List Value}
theorem Bag.perm (h : Bag B N w0 w l) (hp : l.Perm l') : Bag B N w0 w l' :=
  ⟨h.bel, h.low, fun v hv => h.all v (hp.mem_iff.2 hv), hp.pairwise h.ap (fun hxy => Ap.symm hxy)⟩
theorem Bag.tail (h : Bag B N w0 w (v :: l)) : Bag B N w0 w l := ⟨h.bel, h.low, fun u hu => h.all u (by simp [hu]), (List.pairwise_cons.1 h.ap).2⟩
theorem Bag.add (h : Bag B N w0 w l) (xs : List Int) (hx : Bytes xs) (hn : xs.length ≤ N) (hm : xs.length ≤ 1000) :
    Bag B (2 * N) w0 (w.alloc (.cells (bytesV xs).toArray 5)) (.slice (some ⟨w.heap.size, 0, none⟩) xs.length xs.length :: l) ∧ (∀ u, Lit4 w u → (∃ M, Gs B M w u) → Lit4 (w.alloc (.cells (bytesV xs).toArray 5)) u) := by
  have hg := World.grownBy_alloc w (.cells (bytesV xs).toArray 5) none
  refine ⟨⟨h.bel.alloc h.low _, by have := h.low; simp; omega, fun u hu => ?_, List.pairwise_cons.2 ⟨fun u hu k hk => ?_, h.ap⟩⟩, fun u hu ⟨M, hM⟩ => ?_⟩
  · rcases List.mem_cons.1 hu with rfl | hu
    · exact (Gs.lit (N := N) w xs hx h.low hn hm).mono (by omega)
    · obtain ⟨k, hk, _⟩ := (h.all u hu).lt
      exact ((h.all u hu).kept hg (by rw [hk]; simp)).mono (by omega)
  · obtain ⟨k', hk', _, hlt⟩ := (h.all u hu).lt
    simp only [Value.ownBlock, Option.some.injEq] at hk
    rw [hk']
    intro e
    injection e with e
    omega
  · obtain ⟨k, hk, _⟩ := hM.lt
    exact hu.kept hg (by rw [hk]; simp)
theorem Bag.rep {M : Nat} {v' : Value} (h : Bag B N w0 w (v :: l)) (hg : w.grownBy w' v.ownBlock) (hb : Below B w w') (hv : Gs B M w' v') (hM : N ≤ M) (ho : ∀ k, v'.ownBlock = some k → v.ownBlock = some k ∨ w.heap.size ≤ k) : Bag B M w0 w' (v' :: l) := by
  have hap := List.pairwise_cons.1 h.ap
  refine ⟨h.bel.trans hb, Nat.le_trans h.low hb.size, fun u hu => ?_, List.pairwise_cons.2 ⟨fun u hu k hk => ?_, hap.2⟩⟩
  · rcases List.mem_cons.1 hu with rfl | hu
    · exact hv
    · exact ((h.all u (by simp [hu])).kept hg ((hap.1 u hu).ne (h.all u (by simp [hu])))).mono hM
  · obtain ⟨k', hk', _, hlt⟩ := (h.all u (by simp [hu])).lt
    rcases ho k hk with h1 | h1
    · exact hap.1 u hu k h1
    · rw [hk']; intro e; injection e with e; omega
/-- What a source is: bytes that lay there ahead. -/
def SrcB (w0 : World) (s : Value) : Prop := ∃ A m c us, s = .slice A m c ∧ Nums .u8 w0 A m us ∧ m ≤ 7000 ∧ (A = none → c = 0)
theorem Bag.app {s : Value} (h : Bag B N w0 w (v :: l)) (hs : ∃ A m c us, s = .slice A m c ∧ Nums .u8 w A m us ∧ m ≤ N ∧ (A = none → c = 0)) (hN : 2 * N ≤ 1000000000000) :
    ∃ v' w', (Builtin.append_ #[36, 36] 36 #[v, s]).run Try.prog w = .ok v' w' ∧ Bag B (2 * N) w0 w' (v' :: l) ∧ (∀ u, u ∈ l → Lit4 w u → Lit4 w' u) := by
  obtain ⟨A, m, c, us, rfl, hu, hm, hA⟩ := hs
  obtain ⟨v', w', hrun, hG, hgr, hob, hb⟩ := (h.all v (by simp)).append A m c N us hu hA hm (by omega) h.low
  exact ⟨v', w', hrun, h.rep hgr hb (hG.mono (by omega)) (by omega) hob, fun u hu hl => hl.kept hgr (((List.pairwise_cons.1 h.ap).1 u hu).ne (h.all u (by simp [hu])))⟩
theorem Bag.mark (h : Bag B N w0 w (v :: l)) (hl : Lit4 w v) :
    ∃ w', (convert 36 36 v).run Try.prog w = .ok v w' ∧ Bag B (2 * N) w0 w' (v :: l) := by
  obtain ⟨w', hrun, hG, hgr⟩ := (h.all v (by simp)).mark hl
  obtain ⟨k, hk, hB, _⟩ := (h.all v (by simp)).lt
  refine ⟨w', hrun, h.rep hgr ⟨hgr.os, hgr.tape, hgr.output, hgr.size, fun j hj => hgr.block j (by have := h.low; omega) (by rw [hk]; intro e; injection e with e; omega)⟩ (hG.mono (by omega)) (by omega) (fun _ h => .inl h)⟩
end
def upd (X : Nat → Value) (i : Nat) (v : Value) : Nat → Value := fun j => if j = i then v else X j
def fr (F : Value → Value → Value → Value → Value → Value → Value → Value → Value → Value → Value → Act) (X : Nat → Value) : Act := F (X 1) (X 2) (X 3) (X 4) (X 5) (X 6) (X 7) (X 8) (X 9) (X 10) (X 11)
def a1 (c : Nat) (X : Nat → Value) : List Value := if c = 0 then [] else if c = 1 then [X 1] else if c = 2 then [X 2] else if c = 3 then [X 3] else [X 4]
def a2 (c d : Nat) (X : Nat → Value) : List Value := if d = 0 then [] else if d = 1 then [X 5] else if c < 5 then [X 6] else [X 7]
def a3 (c e : Nat) (X : Nat → Value) : List Value := if e = 0 then [] else if c < 6 then [X 8] else if c = 6 then [X 9] else [X 10]
def a4 (f : Nat) (X : Nat → Value) : List Value := if f = 0 then [] else [X 11]
def al (c d e f : Nat) (X : Nat → Value) : List Value := a1 c X ++ (a2 c d X ++ (a3 c e X ++ a4 f X))
def AInv (B : Nat) (w0 : World) (c d e f : Nat) (X : Nat → Value) (w : World) : Prop := Bag B (7000 * 2 ^ (c + d + e + f)) w0 w (al c d e f X) ∧ (d = 1 → Lit4 w (X 5))
theorem pow_two_le {n : Nat} (h : n ≤ 11) : 2 * (7000 * 2 ^ n) ≤ 1000000000000 := by
  have : 2 ^ n ≤ 2 ^ 11 := Nat.pow_le_pow_right (by omega) h
  omega
theorem pow_two_pos (n : Nat) : 7000 ≤ 7000 * 2 ^ n := by
  have : 1 ≤ 2 ^ n := Nat.one_le_two_pow
  omega
theorem pow_two_succ (n : Nat) : 2 * (7000 * 2 ^ n) = 7000 * 2 ^ (n + 1) := by rw [Nat.pow_succ]; omega
theorem SrcB.at_ {w0 w : World} {B N : Nat} {s : Value} (h : SrcB w0 s) (hB : B = w0.heap.size) (hb : Below B w0 w) (hN : 7000 ≤ N) : ∃ A m c us, s = .slice A m c ∧ Nums .u8 w A m us ∧ m ≤ N ∧ (A = none → c = 0) := by
  obtain ⟨A, m, c, us, h1, h2, h3, h4⟩ := h
  exact ⟨A, m, c, us, h1, h2.keep (Keeps.of_below (hB ▸ hb)), by omega, h4⟩
set_option maxHeartbeats 2000000 in
/-- All steps, in whatever order. -/
theorem any13 {ops : Array Oper} {Q : Exit → Act → World → Prop} (F : Value → Value → Value → Value → Value → Value → Value → Value → Value → Value → Value → Act) (B : Nat) (w0 : World) (hB : B = w0.heap.size) (s1 s2 s3 s4 s5 : Value)
    (e1 : SrcB w0 s1) (e2 : SrcB w0 s2) (e3 : SrcB w0 s3) (e4 : SrcB w0 s4) (e5 : SrcB w0 s5) (hr : rdyB ops = true)
    (h4 : ∀ X w K, K (fr F (upd X 1 (.slice (some ⟨w.heap.size, 0, none⟩) 0 0))) (w.alloc (.cells (bytesV []).toArray 5)) → wpOp Try.prog ops Q 4 K (fr F X) w)
    (h8 : ∀ X w K v' w', (Builtin.append_ #[36, 36] 36 #[X 1, s1]).run Try.prog w = .ok v' w' → K (fr F (upd X 2 v')) w' → wpOp Try.prog ops Q 8 K (fr F X) w)
    (h10 : ∀ X w K v' w', (Builtin.append_ #[36, 36] 36 #[X 2, s2]).run Try.prog w = .ok v' w' → K (fr F (upd X 3 v')) w' → wpOp Try.prog ops Q 10 K (fr F X) w)
    (h14 : ∀ X w K v' w', (Builtin.append_ #[36, 36] 36 #[X 3, s3]).run Try.prog w = .ok v' w' → K (fr F (upd X 4 v')) w' → wpOp Try.prog ops Q 14 K (fr F X) w)
    (h16 : ∀ X w K, K (fr F (upd X 5 (.slice (some ⟨w.heap.size, 0, none⟩) 4 4))) (w.alloc (.cells (bytesV [67, 85, 66, 49]).toArray 5)) → wpOp Try.prog ops Q 16 K (fr F X) w)
    (h17 : ∀ X w K v' w', (convert 36 36 (X 5)).run Try.prog w = .ok v' w' → K (fr F (upd X 6 v')) w' → wpOp Try.prog ops Q 17 K (fr F X) w)
    (h19 : ∀ X w K v' w', (Builtin.append_ #[36, 36] 36 #[X 6, s4]).run Try.prog w = .ok v' w' → K (fr F (upd X 7 v')) w' → wpOp Try.prog ops Q 19 K (fr F X) w)
    (h20 : ∀ X w K, K (fr F (upd X 8 (.slice (some ⟨w.heap.size, 0, none⟩) 0 0))) (w.alloc (.cells (bytesV []).toArray 5)) → wpOp Try.prog ops Q 20 K (fr F X) w)
    (h22 : ∀ X w K v' w', (Builtin.append_ #[36, 36] 36 #[X 8, s5]).run Try.prog w = .ok v' w' → K (fr F (upd X 9 v')) w' → wpOp Try.prog ops Q 22 K (fr F X) w)
    (h23 : ∀ X w K, K (fr F (upd X 11 (.slice (some ⟨w.heap.size, 0, none⟩) 1 1))) (w.alloc (.cells (bytesV [0]).toArray 5)) → wpOp Try.prog ops Q 23 K (fr F X) w)
    (h24 : ∀ X w K v' w', (Builtin.append_ #[36, 36] 36 #[X 9, X 11]).run Try.prog w = .ok v' w' → K (fr F (upd X 10 v')) w' → wpOp Try.prog ops Q 24 K (fr F X) w)
    (hend : ∀ X w, Below B w0 w → BytesAt w (X 4) → BytesAt w (X 7) → BytesAt w (X 10) → wpAnyH Try.prog .any ops Q (fun _ => True) 2 (lst 7 2 1 1) (fr F X) w) :
    ∀ r c d e f, okSt c d e f = true → c + d + e + f + r = 11 → ∀ X w, AInv B w0 c d e f X w → wpAnyH Try.prog .any ops Q (fun _ => True) (r + 2) (lst c d e f) (fr F X) w := by
  intro r
  induction r with
  | zero =>
    intro c d e f hok hs X w hI
    simp only [okSt, Bool.and_eq_true, decide_eq_true_eq] at hok
    obtain ⟨⟨⟨⟨⟨⟨k1, k2⟩, k3⟩, k4⟩, _⟩, _⟩, _⟩ := hok
    obtain ⟨rfl, rfl, rfl, rfl⟩ : c = 7 ∧ d = 2 ∧ e = 1 ∧ f = 1 := by omega
    exact hend X w hI.1.bel (hI.1.all _ (by simp [al, a1, a2, a3, a4])).at_ (hI.1.all _ (by simp [al, a1, a2, a3, a4])).at_ (hI.1.all _ (by simp [al, a1, a2, a3, a4])).at_
  | succ r ih =>
    intro c d e f hok hs X w hI
    have hok' := hok
    simp only [okSt, Bool.and_eq_true, Bool.or_eq_true, decide_eq_true_eq] at hok'
    obtain ⟨⟨⟨⟨⟨⟨k1, k2⟩, k3⟩, k4⟩, g1⟩, g2⟩, g3⟩ := hok'
    have hrd : (Region.ready .any ops (lst c d e f)).isEmpty = false ∧ ∀ i ∈ Region.ready .any ops (lst c d e f), (nxt c d e f i).isSome = true := by
      simp only [rdyB, List.all_eq_true, List.mem_range] at hr
      have h := hr c (by omega) d (by omega) e (by omega) f (by omega)
      rw [hok] at h
      have hne : decide (c + d + e + f = 11) = false := by simp; omega
      rw [hne] at h
      simpa using h
    refine wpAnyH_ready (rs := Region.ready .any ops (lst c d e f)) rfl (fun h => by rw [h] at hrd; simp at hrd) ?_
    intro i hi
    obtain ⟨s, hnx⟩ := Option.isSome_iff_exists.1 (hrd.2 i hi)
    have hi27 : i < 27 := by
      unfold nxt at hnx
      repeat' split at hnx
      all_goals first | omega | simp at hnx
    obtain ⟨hl1, hl2, hl3⟩ := lst_nxt c (by omega) d (by omega) e (by omega) f (by omega) hok i hi27 s hnx
    have ihs := ih s.1 s.2.1 s.2.2.1 s.2.2.2 hl2 (by omega)
    rw [hl1]
    have hN := pow_two_le (n := c + d + e + f) (by omega)
    have hp := pow_two_pos (c + d + e + f)
    have hq := pow_two_succ (c + d + e + f)
    obtain ⟨hbag, hlit⟩ := hI
    have hlow := hbag.low
    unfold nxt at hnx
    repeat' split at hnx
    · obtain ⟨rfl, rfl⟩ := ‹_ ∧ _›
      injection hnx with hnx
      subst hnx
      have hb1 := (show Bag _ _ _ _ (a2 0 d X ++ (a3 0 e X ++ a4 f X)) from hbag.perm (List.Perm.of_eq (by simp [al, a1, a2, a3, a4]))).add [] (by intro x hx; simp at hx; try omega) (Nat.le_trans (show ([] : List Int).length ≤ 7000 by decide) hp) (by simp)
      refine h4 X w _ ⟨trivial, ihs _ _ ⟨?_, ?_⟩⟩
      · rw [show 1 + d + e + f = 0 + d + e + f + 1 by omega, ← hq]
        exact hb1.1.perm (List.Perm.of_eq (by simp [al, a1, a2, a3, a4, upd]))
      · intro hd; have hd : d = 1 := hd; exact (show Lit4 _ (X 5) from hb1.2 (X 5) (hlit hd) ⟨_, hbag.all (X 5) (by simp [al, a2, hd])⟩)
    · obtain ⟨rfl, rfl⟩ := ‹_ ∧ _›
      injection hnx with hnx
      subst hnx
      have hb0 : Bag _ _ _ _ (X 1 :: (a2 1 d X ++ (a3 1 e X ++ a4 f X))) := hbag.perm (List.Perm.of_eq (by simp [al, a1, a2, a3, a4]))
      obtain ⟨v', w', hrun, hb1, hb2⟩ := hb0.app (e1.at_ hB hbag.bel hp) hN
      refine h8 X w _ _ _ hrun ⟨trivial, ihs _ _ ⟨?_, ?_⟩⟩
      · rw [show 2 + d + e + f = 1 + d + e + f + 1 by omega, ← hq]
        exact hb1.perm (List.Perm.of_eq (by simp [al, a1, a2, a3, a4, upd]))
      · intro hd; have hd : d = 1 := hd; exact (show Lit4 _ (X 5) from hb2 (X 5) (by simp [a2, hd]) (hlit hd))
    · obtain ⟨rfl, rfl⟩ := ‹_ ∧ _›
      injection hnx with hnx
      subst hnx
      have hb0 : Bag _ _ _ _ (X 2 :: (a2 2 d X ++ (a3 2 e X ++ a4 f X))) := hbag.perm (List.Perm.of_eq (by simp [al, a1, a2, a3, a4]))
      obtain ⟨v', w', hrun, hb1, hb2⟩ := hb0.app (e2.at_ hB hbag.bel hp) hN
      refine h10 X w _ _ _ hrun ⟨trivial, ihs _ _ ⟨?_, ?_⟩⟩
      · rw [show 3 + d + e + f = 2 + d + e + f + 1 by omega, ← hq]
        exact hb1.perm (List.Perm.of_eq (by simp [al, a1, a2, a3, a4, upd]))
      · intro hd; have hd : d = 1 := hd; exact (show Lit4 _ (X 5) from hb2 (X 5) (by simp [a2, hd]) (hlit hd))
    · obtain ⟨rfl, rfl⟩ := ‹_ ∧ _›
      injection hnx with hnx
      subst hnx
      have hb0 : Bag _ _ _ _ (X 3 :: (a2 3 d X ++ (a3 3 e X ++ a4 f X))) := hbag.perm (List.Perm.of_eq (by simp [al, a1, a2, a3, a4]))
      obtain ⟨v', w', hrun, hb1, hb2⟩ := hb0.app (e3.at_ hB hbag.bel hp) hN
      refine h14 X w _ _ _ hrun ⟨trivial, ihs _ _ ⟨?_, ?_⟩⟩
      · rw [show 4 + d + e + f = 3 + d + e + f + 1 by omega, ← hq]
        exact hb1.perm (List.Perm.of_eq (by simp [al, a1, a2, a3, a4, upd]))
      · intro hd; have hd : d = 1 := hd; exact (show Lit4 _ (X 5) from hb2 (X 5) (by simp [a2, hd]) (hlit hd))
    · obtain ⟨rfl, rfl⟩ := ‹_ ∧ _›
      injection hnx with hnx
      subst hnx
      have hb1 := (show Bag _ _ _ _ (a1 c X ++ (a3 c e X ++ a4 f X)) from hbag.perm (List.Perm.of_eq (by simp [al, a1, a2, a3, a4]))).add [67, 85, 66, 49] (by intro x hx; simp at hx; try omega) (Nat.le_trans (show ([67, 85, 66, 49] : List Int).length ≤ 7000 by decide) hp) (by simp)
      refine h16 X w _ ⟨trivial, ihs _ _ ⟨?_, ?_⟩⟩
      · rw [show c + 1 + e + f = c + 0 + e + f + 1 by omega, ← hq]
        exact hb1.1.perm (by rw [show al c 1 e f (upd X 5 (Value.slice (some ⟨w.heap.size, 0, none⟩) 4 4)) = a1 c X ++ ((Value.slice (some ⟨w.heap.size, 0, none⟩) 4 4) :: (a3 c e X ++ a4 f X)) by simp [al, a1, a2, a3, a4, upd]]; exact List.perm_middle.symm)
      · intro _; exact Lit4.new w [67, 85, 66, 49]
    · obtain ⟨rfl, rfl⟩ := ‹_ ∧ _›
      injection hnx with hnx
      subst hnx
      have hc5 : c < 5 := by omega
      have hb0 : Bag _ _ _ _ (X 5 :: (a1 c X ++ (a3 c e X ++ a4 f X))) := hbag.perm (by rw [show al c 1 e f X = a1 c X ++ (X 5 :: (a3 c e X ++ a4 f X)) by simp [al, a1, a2, a3, a4]]; exact List.perm_middle)
      obtain ⟨w', hrun, hb1⟩ := hb0.mark (hlit rfl)
      refine h17 X w _ _ _ hrun ⟨trivial, ihs _ _ ⟨?_, ?_⟩⟩
      · rw [show c + 2 + e + f = c + 1 + e + f + 1 by omega, ← hq]
        exact hb1.perm (by rw [show al c 2 e f (upd X 6 (X 5)) = a1 c X ++ ((X 5) :: (a3 c e X ++ a4 f X)) by simp [al, a1, a2, a3, a4, upd, hc5]]; exact List.perm_middle.symm)
      · intro hd; exact absurd (show 2 = 1 from hd) (by decide)
    · obtain ⟨rfl, rfl, rfl⟩ := ‹_ ∧ _›
      injection hnx with hnx
      subst hnx
      have hb0 : Bag _ _ _ _ (X 6 :: (a1 4 X ++ (a3 4 e X ++ a4 f X))) := hbag.perm (by rw [show al 4 2 e f X = a1 4 X ++ (X 6 :: (a3 4 e X ++ a4 f X)) by simp [al, a1, a2, a3, a4]]; exact List.perm_middle)
      obtain ⟨v', w', hrun, hb1, hb2⟩ := hb0.app (e4.at_ hB hbag.bel hp) hN
      refine h19 X w _ _ _ hrun ⟨trivial, ihs _ _ ⟨?_, ?_⟩⟩
      · rw [show 5 + 2 + e + f = 4 + 2 + e + f + 1 by omega, ← hq]
        exact hb1.perm (by rw [show al 5 2 e f (upd X 7 v') = a1 4 X ++ (v' :: (a3 4 e X ++ a4 f X)) by simp [al, a1, a2, a3, a4, upd]]; exact List.perm_middle.symm)
      · intro hd; exact absurd (show 2 = 1 from hd) (by decide)
    · obtain ⟨rfl, rfl⟩ := ‹_ ∧ _›
      injection hnx with hnx
      subst hnx
      have hc6 : c < 6 := by omega
      have hb1 := (show Bag _ _ _ _ (a1 c X ++ (a2 c d X ++ a4 f X)) from hbag.perm (List.Perm.of_eq (by simp [al, a1, a2, a3, a4]))).add [] (by intro x hx; simp at hx; try omega) (Nat.le_trans (show ([] : List Int).length ≤ 7000 by decide) hp) (by simp)
      refine h20 X w _ ⟨trivial, ihs _ _ ⟨?_, ?_⟩⟩
      · rw [show c + d + 1 + f = c + d + 0 + f + 1 by omega, ← hq]
        exact hb1.1.perm (by rw [show al c d 1 f (upd X 8 (Value.slice (some ⟨w.heap.size, 0, none⟩) 0 0)) = a1 c X ++ (a2 c d X ++ ((Value.slice (some ⟨w.heap.size, 0, none⟩) 0 0) :: a4 f X)) by simp [al, a1, a2, a3, a4, upd, hc6]]; exact ((List.Perm.append_left _ List.perm_middle).trans List.perm_middle).symm)
      · intro hd; have hd : d = 1 := hd; exact (show Lit4 _ (X 5) from hb1.2 (X 5) (hlit hd) ⟨_, hbag.all (X 5) (by simp [al, a2, hd])⟩)
    · obtain ⟨rfl, rfl, rfl⟩ := ‹_ ∧ _›
      injection hnx with hnx
      subst hnx
      have hb0 : Bag _ _ _ _ (X 8 :: (a1 5 X ++ (a2 5 d X ++ a4 f X))) := hbag.perm (by rw [show al 5 d 1 f X = a1 5 X ++ (a2 5 d X ++ (X 8 :: a4 f X)) by simp [al, a1, a2, a3, a4]]; exact (List.Perm.append_left _ List.perm_middle).trans List.perm_middle)
      obtain ⟨v', w', hrun, hb1, hb2⟩ := hb0.app (e5.at_ hB hbag.bel hp) hN
      refine h22 X w _ _ _ hrun ⟨trivial, ihs _ _ ⟨?_, ?_⟩⟩
      · rw [show 6 + d + 1 + f = 5 + d + 1 + f + 1 by omega, ← hq]
        exact hb1.perm (by rw [show al 6 d 1 f (upd X 9 v') = a1 5 X ++ (a2 5 d X ++ (v' :: a4 f X)) by simp [al, a1, a2, a3, a4, upd]]; exact ((List.Perm.append_left _ List.perm_middle).trans List.perm_middle).symm)
      · intro hd; have hd : d = 1 := hd; exact (show Lit4 _ (X 5) from hb2 (X 5) (by simp [a2, hd]) (hlit hd))
    · obtain ⟨rfl, rfl⟩ := ‹_ ∧ _›
      injection hnx with hnx
      subst hnx
      have hb1 := (show Bag _ _ _ _ (a1 c X ++ (a2 c d X ++ a3 c e X)) from hbag.perm (List.Perm.of_eq (by simp [al, a1, a2, a3, a4]))).add [0] (by intro x hx; simp at hx; try omega) (Nat.le_trans (show ([0] : List Int).length ≤ 7000 by decide) hp) (by simp)
      refine h23 X w _ ⟨trivial, ihs _ _ ⟨?_, ?_⟩⟩
      · rw [show c + d + e + 1 = c + d + e + 0 + 1 by omega, ← hq]
        exact hb1.1.perm (by rw [show al c d e 1 (upd X 11 (Value.slice (some ⟨w.heap.size, 0, none⟩) 1 1)) = (a1 c X ++ (a2 c d X ++ a3 c e X)) ++ [(Value.slice (some ⟨w.heap.size, 0, none⟩) 1 1)] by simp [al, a1, a2, a3, a4, upd]]; exact (List.perm_append_singleton _ _).symm)
      · intro hd; have hd : d = 1 := hd; exact (show Lit4 _ (X 5) from hb1.2 (X 5) (hlit hd) ⟨_, hbag.all (X 5) (by simp [al, a2, hd])⟩)
    · obtain ⟨rfl, rfl, rfl⟩ := ‹_ ∧ _›
      injection hnx with hnx
      subst hnx
      obtain rfl : e = 1 := by omega
      have hb0 : Bag _ _ _ _ (X 9 :: (a1 6 X ++ (a2 6 d X ++ a4 1 X))) := hbag.perm (by rw [show al 6 d 1 1 X = a1 6 X ++ (a2 6 d X ++ (X 9 :: a4 1 X)) by simp [al, a1, a2, a3, a4]]; exact (List.Perm.append_left _ List.perm_middle).trans List.perm_middle)
      obtain ⟨v', w', hrun, hb1, hb2⟩ := hb0.app (s := X 11) (by obtain ⟨A, n, c', ys, q1, q2, q3, q4, q5⟩ := (hb0.all (X 11) (by simp [a4])).nums; exact ⟨A, n, c', ys, q1, q2, q5, fun hA => by obtain ⟨k, hk, _⟩ := (hb0.all (X 11) (by simp [a4])).lt; rw [q1, hA] at hk; simp [Value.ownBlock] at hk⟩) hN
      refine h24 X w _ _ _ hrun ⟨trivial, ihs _ _ ⟨?_, ?_⟩⟩
      · rw [show 7 + d + 1 + 1 = 6 + d + 1 + 1 + 1 by omega, ← hq]
        exact hb1.perm (by rw [show al 7 d 1 1 (upd X 10 v') = a1 6 X ++ (a2 6 d X ++ (v' :: a4 1 X)) by simp [al, a1, a2, a3, a4, upd]]; exact ((List.Perm.append_left _ List.perm_middle).trans List.perm_middle).symm)
      · intro hd; have hd : d = 1 := hd; exact (show Lit4 _ (X 5) from hb2 (X 5) (by simp [a2, hd]) (hlit hd))
    · cases hnx
end Go.Proofs.Ytnabmbnfmnpcoaa
