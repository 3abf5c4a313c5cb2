/- There and back: what Encode writes Decode reads (P103), in plain words. -/
import Derived.Test.YtejjbbomkedpcaaRec9
import Derived.Test.YtejjbbomkedpcaaRef1
namespace Go.Proofs.Ytejjbbomkedpcaa
open Go.RowKit
theorem be_succ (k : Nat) (x : Int) : be (k + 1) x = be k (x / 256) ++ [x % 256] := by
  unfold be
  rw [List.range_succ, List.map_append]
  congr 1
  · apply List.map_congr_left
    intro i hi
    have hi := List.mem_range.1 hi
    rw [show k + 1 - 1 - i = (k - 1 - i) + 1 from by omega, show 8 * ((k - 1 - i) + 1) = 8 + 8 * (k - 1 - i) from by omega, Int.pow_add, ← Int.ediv_ediv_of_nonneg (by decide)]
    rfl
  · simp
theorem beVal_be (k : Nat) : ∀ x : Int, beVal (be k x) = x % 256 ^ k := by
  induction k with
  | zero => intro x; simp [be, beVal]
  | succ k ih =>
    intro x
    rw [be_succ, beVal_snoc, ih, Int.pow_succ]
    have h1 : (x / 256 % 256 ^ k) * 256 + x % 256 = x % (256 ^ k * 256) := by
      have hp : (0 : Int) < 256 ^ k := Int.pow_pos (by decide)
      have e1 := Int.emod_add_mul_ediv x 256
      have e2 := Int.emod_add_mul_ediv (x / 256) (256 ^ k)
      have e3 := Int.emod_add_mul_ediv x (256 ^ k * 256)
      have e4 : x / 256 / 256 ^ k = x / (256 ^ k * 256) := by rw [Int.ediv_ediv_of_nonneg (by decide), Int.mul_comm]
      rw [e4] at e2
      have e5 : 256 ^ k * 256 * (x / (256 ^ k * 256)) = 256 * (256 ^ k * (x / (256 ^ k * 256))) := by
        rw [Int.mul_comm (256 ^ k) 256, Int.mul_assoc]
      omega
    exact h1
theorem beVal_be1 {x : Int} (h : 0 ≤ x ∧ x ≤ 255) : beVal (be 1 x) = x := by rw [beVal_be]; simp; omega
theorem beVal_be2 {x : Int} (h : 0 ≤ x ∧ x ≤ 65535) : beVal (be 2 x) = x := by rw [beVal_be]; simp; omega
theorem beVal_be64 {x : Int} (h : inK .i64 x) : wrap64 (beVal (be64 x)) = x := by
  obtain ⟨h1, h2⟩ := h
  rw [be64, beVal_be]
  simp only [Int.reducePow]
  unfold wrap64
  omega
theorem chunks_cons (f : Int → Int) (k cnt : Nat) (l : List Int) : chunks f k (cnt + 1) l = f (beVal (l.take k)) :: chunks f k cnt (l.drop k) := by
  unfold chunks
  rw [List.range_succ_eq_map, List.map_cons, Nat.mul_zero, List.drop_zero, List.map_map]
  congr 1
  apply List.map_congr_left
  intro i _
  simp only [Function.comp, List.drop_drop]
  rw [show k * (i + 1) = k + k * i from by rw [Nat.mul_succ, Nat.add_comm]]
theorem chunks_back {f : Int → Int} {p : Int → List Int} {k : Nat} (hl : ∀ x, (p x).length = k) : ∀ (xs rest : List Int), (∀ x ∈ xs, f (beVal (p x)) = x) → chunks f k xs.length (xs.flatMap p ++ rest) = xs
  | [], rest, _ => by simp [chunks]
  | x :: t, rest, h => by
    rw [List.length_cons, chunks_cons, List.flatMap_cons, List.append_assoc]
    have e1 : (p x ++ (t.flatMap p ++ rest)).take k = p x := by rw [List.take_append_of_le_length (by rw [hl]; exact Nat.le_refl _), List.take_of_length_le (by rw [hl]; exact Nat.le_refl _)]
    have e2 : (p x ++ (t.flatMap p ++ rest)).drop k = t.flatMap p ++ rest := by rw [← hl x, List.drop_left]
    rw [e1, e2, h x (by simp), chunks_back hl t rest fun y hy => h y (by simp [hy])]
theorem pad_front {a b : List Int} (h : a.length ≤ 12) : ∃ c, pad (a ++ b) = a ++ c := by
  unfold pad spl
  rw [List.take_zero, List.nil_append, List.take_append, List.take_of_length_le h, List.append_assoc]
  exact ⟨_, rfl⟩
theorem drop_front {α : Type} {a b : List α} {k : Nat} (h : a.length = k) : (a ++ b).drop k = b := by subst h; exact List.drop_left
theorem take_front {α : Type} {a b : List α} {k : Nat} (h : a.length = k) : (a ++ b).take k = a := by subst h; exact List.take_left

/-- The numbers of facts are ints. -/
def Small (l : List Fact) : Prop := ∀ r ∈ l, ∀ x ∈ r.m, inK .i64 x
section
variable {cs : List Int} {me : Int} {l : List Fact}
theorem enc_head (hck : checkB cs me = true) (hn : l.length ≤ 300) :
    hMark (encB cs me l) = true ∧ hDims (encB cs me l) = cs.length ∧ hCards (encB cs me l) = cs ∧ hMeas (encB cs me l) = me ∧ hRows (encB cs me l) = (l.length : Int) := by
  obtain ⟨k1, k2, k3, k4, k5⟩ := checkB_spec hck
  obtain ⟨c, hc⟩ := pad_front (a := headB cs me l.length) (b := l.flatMap rowB) (by rw [headB_len]; omega)
  have hp : pad (encB cs me l) = [67, 85, 66, 49] ++ (be 1 cs.length ++ (cs.flatMap (be 1) ++ (be 1 me ++ (be 2 l.length ++ c)))) := by
    rw [encB, hc, headB]; simp [List.append_assoc]
  have h4 : (pad (encB cs me l)).drop 4 = be 1 cs.length ++ (cs.flatMap (be 1) ++ (be 1 me ++ (be 2 l.length ++ c))) := by rw [hp]; rfl
  have hd : hDims (encB cs me l) = cs.length := by
    rw [hDims, h4, take_front (be_len 1 _), beVal_be1 (by omega)]; simp
  have h5 : ((pad (encB cs me l)).drop 4).drop 1 = cs.flatMap (be 1) ++ (be 1 me ++ (be 2 l.length ++ c)) := by rw [h4, drop_front (be_len 1 _)]
  have hfl : (cs.flatMap (be 1)).length = cs.length := by rw [flat_len (be 1) 1 (by intro x; exact be_len _ _), Nat.one_mul]
  have h6 : (((pad (encB cs me l)).drop 4).drop 1).drop (hDims (encB cs me l)) = be 1 me ++ (be 2 l.length ++ c) := by rw [hd, h5, drop_front hfl]
  refine ⟨?_, hd, ?_, ?_, ?_⟩
  · rw [hMark, hp]; exact decide_eq_true rfl
  · rw [hCards, hd, h5, chunks_back (p := be 1) (fun x => be_len 1 x) cs _ fun x hx => beVal_be1 (by have := k5 x hx; omega)]
  · rw [hMeas, h6, take_front (be_len 1 _), beVal_be1 (by omega)]
  · rw [hRows, h6, drop_front (be_len 1 _), take_front (be_len 2 _), beVal_be2 (by omega)]
theorem rows_drop {W : Nat} : ∀ {l : List Fact} (i : Nat), (∀ r ∈ l, (rowB r).length = W) → (l.flatMap rowB).drop (i * W) = (l.drop i).flatMap rowB
  | l, 0, _ => by simp
  | [], i + 1, _ => by simp
  | r :: t, i + 1, h => by
    rw [List.flatMap_cons, Nat.succ_mul, Nat.add_comm, ← List.drop_drop, drop_front (h r (by simp)), List.drop_succ_cons]
    exact rows_drop i fun r hr => h r (by simp [hr])
theorem enc_back (ha : allRightB cs me l = true) (hn : l.length ≤ 300) (hs : Small l) :
    decOk (encB cs me l) = true ∧ dRows (encB cs me l) = l := by
  obtain ⟨hck, hrr⟩ := allRightB_spec ha
  obtain ⟨k1, k2, k3, k4, k5⟩ := checkB_spec hck
  obtain ⟨e1, e2, e3, e4, e5⟩ := enc_head hck hn
  obtain ⟨m, rfl⟩ := Int.eq_ofNat_of_zero_le k3
  have hm : (hMeas (encB cs m l)).toNat = m := by rw [e4]; simp
  have hr : (hRows (encB cs m l)).toNat = l.length := by rw [e5]; simp
  have hlen : ∀ r ∈ l, (rowB r).length = cs.length + 8 * m := fun r h => by
    rw [rowB_len, keysB_len (rightB_key (hrr r h))]
    have := rightB_m (hrr r h)
    omega
  have hbody : (encB cs m l).drop (8 + hDims (encB cs m l)) = l.flatMap rowB := by
    rw [e2, encB, drop_front (headB_len _ _ _)]
  have hrows : dRows (encB cs m l) = l := by
    apply List.ext_getElem?
    intro i
    rcases Nat.lt_or_ge i l.length with hi | hi
    · rw [dRows_at (by rw [hr]; exact hi), List.getElem?_eq_getElem hi]
      congr 1
      have hmem : l[i] ∈ l := List.getElem_mem hi
      have hkl := keysB_len (rightB_key (hrr _ hmem))
      have hml : l[i].m.length = m := by have := rightB_m (hrr _ hmem); omega
      have hd : (l.flatMap rowB).drop (i * (cs.length + 8 * m)) = l[i].key.flatMap (be 1) ++ (l[i].m.flatMap be64 ++ (l.drop (i + 1)).flatMap rowB) := by
        rw [rows_drop i hlen, List.drop_eq_getElem_cons hi, List.flatMap_cons, rowB, List.append_assoc]
      have hsm := keysB_small (rightB_key (hrr _ hmem)) k5
      have hfl : (l[i].key.flatMap (be 1)).length = cs.length := by rw [flat_len (be 1) 1 (by intro x; exact be_len _ _), Nat.one_mul, hkl]
      apply fact_eq.2
      refine ⟨?_, ?_⟩
      · unfold dRow
        simp only []
        rw [hbody, hm, e2, hd, ← hkl]
        exact chunks_back (p := be 1) (fun x => be_len 1 x) _ _ fun x hx => beVal_be1 (by have := hsm x hx; omega)
      · unfold dRow
        simp only []
        rw [hbody, hm, e2, hd, drop_front hfl, ← hml]
        exact chunks_back (p := be64) (fun x => be_len 8 _) _ _ fun x hx => beVal_be64 (hs _ hmem x hx)
    · rw [List.getElem?_eq_none (by rw [dRows_len, hr]; exact hi), List.getElem?_eq_none hi]
  refine ⟨?_, hrows⟩
  rw [decOk, headOk, e1, e2, e3, e4, e5, hrows, hck, decide_eq_true k2, decide_eq_true (show (l.length : Int) ≤ 300 by omega)]
  rw [decide_eq_true (show (encB cs m l).length = dLen (encB cs m l) by
    rw [dLen, e2, hm, hr, encB, List.length_append, headB_len, rows_len (W := cs.length + 8 * m) (fun r h => by rw [← rowB_len]; exact hlen r h)])]
  simpa using hrr
end
/-! ### What a decoded file of facts reads as -/
theorem add0 (h k : Nat) : (Addr.add ⟨h, 0, none⟩ k) = ⟨h, k, none⟩ := by
  unfold Addr.add
  split
  · simp [*]
  · simp
theorem RowsOwn.facts {w : World} {B h d me : Nat} {ps : List (Nat × Nat)} {l : List Fact} (ho : Own 33 w h (rowCells d me ps)) (hr : RowsOwn w B ps l)
    (hl : ∀ r ∈ l, (r.key.length = d ∧ r.m.length = me) ∧ (∀ x ∈ r.key, inK .i64 x) ∧ ∀ x ∈ r.m, inK .i64 x) : Facts w (some ⟨h, 0, none⟩) l.length l := by
  refine ⟨rfl, fun _ => ⟨_, rfl, fun j r hj => ?_⟩⟩
  have hjl : j < l.length := (List.getElem?_eq_some_iff.1 hj).1
  have hp : ps[j]? = some (ps[j]'(by rw [hr.1]; exact hjl)) := List.getElem?_eq_getElem _
  obtain ⟨_, a1, a2⟩ := hr.2 j _ r hp hj
  obtain ⟨⟨e1, e2⟩, k1, k2⟩ := hl r (List.mem_of_getElem? hj)
  obtain ⟨c1, c2⟩ := rowCells_at (d := d) (me := me) hp
  refine ⟨_, r.key.length, _, r.m.length, ?_, ?_, a1.nums k1, a2.nums k2⟩
  · rw [add0, ho.cell c1, sl, e1]
  · rw [add0]
    show w.cell? ⟨h, j * 2 + 1, none⟩ = _
    rw [ho.cell c2, sl, e2]
/-- What Decode leaves of what Encode wrote. -/
def BackPost (cs : List Int) (me : Int) (l : List Fact) (w : World) (e : Ending) (w' : World) : Prop :=
  ∃ g h ps, e = .returned (.tuple #[.agg #[.slice (some ⟨g, 0, none⟩) cs.length cs.length, .int .i64 me], .slice (some ⟨h, 0, none⟩) l.length l.length, .int .i64 0]) ∧ Nums .i64 w' (some ⟨g, 0, none⟩) cs.length cs ∧ Facts w' (some ⟨h, 0, none⟩) l.length l ∧
    Below w.heap.size w w' ∧ (w.heap.size ≤ g ∧ w.heap.size ≤ h) ∧ Arr .i64 3 w' g cs ∧ Own 33 w' h (rowCells cs.length me.toNat ps) ∧ RowsOwn w' w.heap.size ps l
theorem DecPost.back {cs : List Int} {me : Int} {l : List Fact} {w w' : World} {e : Ending} (ha : allRightB cs me l = true) (hn : l.length ≤ 300) (hs : Small l) (h : DecPost (encB cs me l) w e w') : BackPost cs me l w e w' := by
  obtain ⟨hok, hrows⟩ := enc_back ha hn hs
  obtain ⟨hck, hrr⟩ := allRightB_spec ha
  obtain ⟨k1, k2, k3, k4, k5⟩ := checkB_spec hck
  obtain ⟨e1, e2, e3, e4, e5⟩ := enc_head (l := l) hck hn
  obtain ⟨hb, (⟨hno, _⟩ | ⟨_, g, h, ps, he, hgh, harr, hown, hro⟩)⟩ := h
  · rw [hok] at hno; cases hno
  · rw [e2, e4] at hown
    rw [e3] at harr
    rw [hrows] at hro
    rw [e2, e4, e5, Int.toNat_natCast] at he
    refine ⟨g, h, ps, he, harr.nums (fun x hx => by have := k5 x hx; simp only [inK]; omega), RowsOwn.facts hown hro (fun r hr => ⟨⟨keysB_len (rightB_key (hrr r hr)), ?_⟩, ?_, fun x hx => hs r hr x hx⟩), hb, hgh, harr, hown, hro⟩
    · have := rightB_m (hrr r hr); omega
    · intro x hx
      have := keysB_small (rightB_key (hrr r hr)) k5 x hx
      simp only [inK]
      omega
theorem heap_new (w : World) (o : Obj) (g : Nat) (hg : g = w.heap.size) : (w.alloc o).heap[g]? = some o := by rw [hg]; exact heap_alloc_new w o
theorem Arr.new (w : World) (kd : IntKind) (T : TypeId) (xs : List Int) (g : Nat) (hg : g = w.heap.size) : Arr kd T (w.alloc (.cells (xs.map (Value.int kd)).toArray T)) g xs := heap_new w _ g hg
theorem Own.new (w : World) (T : TypeId) (vs : List Value) (g : Nat) (hg : g = w.heap.size) : Own T (w.alloc (.cells vs.toArray T)) g vs := heap_new w _ g hg

theorem be_bytes (k : Nat) (x : Int) : Bytes (be k x) := by
  intro y hy
  simp only [be, List.mem_map] at hy
  obtain ⟨i, _, rfl⟩ := hy
  omega
theorem flat_bytes {f : Int → List Int} (h : ∀ x, Bytes (f x)) (xs : List Int) : Bytes (xs.flatMap f) := by
  intro y hy
  obtain ⟨x, _, hx⟩ := List.mem_flatMap.1 hy
  exact h x y hx
theorem Bytes.append {a b : List Int} (h1 : Bytes a) (h2 : Bytes b) : Bytes (a ++ b) := fun x hx => by
  rcases List.mem_append.1 hx with h | h
  · exact h1 x h
  · exact h2 x h
theorem headB_bytes (cs : List Int) (me r : Int) : Bytes (headB cs me r) := by
  unfold headB
  refine ((((?_ : Bytes _).append (be_bytes 1 _)).append (flat_bytes (be_bytes 1) cs)).append (be_bytes 1 _)).append (be_bytes 2 _)
  intro x hx
  simp at hx
  omega
theorem encB_bytes (cs : List Int) (me : Int) (l : List Fact) : Bytes (encB cs me l) := by
  refine (headB_bytes _ _ _).append fun y hy => ?_
  obtain ⟨r, _, hr⟩ := List.mem_flatMap.1 hy
  exact ((flat_bytes (be_bytes 1) r.key).append (flat_bytes (fun x => be_bytes 8 _) r.m)) y hr

end Go.Proofs.Ytejjbbomkedpcaa
