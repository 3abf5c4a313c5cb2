/- Words for memory that all layers use: slices of numbers, rows of facts, schemas, read in a world; how they stay. No Go text in sight. -/
import Derived.WalkKit
import Derived.WalkSpells
import Derived.WalkLawsBesides
import Derived.Deep.QuietTactic
import Derived.BigQuiet
import Derived.Lib.QuietBelow
import Derived.Lib.Hide
import Derived.Lib.LazyBuf
namespace Go.Proofs.Ytmolfcccfekcpaa
open Go.RowKit

/-- x fits its kind. -/
def inK : IntKind → Int → Prop
  | .i64, x => -9223372036854775808 ≤ x ∧ x ≤ 9223372036854775807
  | .u8, x => 0 ≤ x ∧ x ≤ 255
  | _, _ => True

/-- A slice of n numbers of one kind that reads as xs. -/
def Nums (kd : IntKind) (w : World) (A : Option Addr) (n : Nat) (xs : List Int) : Prop :=
  xs.length = n ∧ (∀ x ∈ xs, inK kd x) ∧ (0 < n → ∃ ad, A = some ad ∧ ∀ j x, xs[j]? = some x → w.cell? (ad.add j) = some (.int kd x))

theorem Nums.len {kd : IntKind} {w : World} {A : Option Addr} {n : Nat} {xs : List Int} (h : Nums kd w A n xs) : xs.length = n := h.1
theorem Nums.ok {kd : IntKind} {w : World} {A : Option Addr} {n : Nat} {xs : List Int} (h : Nums kd w A n xs) : ∀ x ∈ xs, inK kd x := h.2.1

theorem Nums.at_ {kd : IntKind} {w : World} {A : Option Addr} {n : Nat} {xs : List Int} (h : Nums kd w A n xs) {k : Nat} (hk : k < n) :
    ∃ ad x, A = some ad ∧ xs[k]? = some x ∧ inK kd x ∧ w.cell? (ad.add k) = some (.int kd x) := by
  obtain ⟨hl, hi, hc⟩ := h
  obtain ⟨ad, ha, hc⟩ := hc (by omega)
  have hx : xs[k]? = some xs[k] := List.getElem?_eq_getElem (by omega)
  exact ⟨ad, xs[k], ha, hx, hi _ (List.getElem_mem _), hc _ _ hx⟩

theorem block_of_add (a : Addr) (n : Nat) : (a.add n).block = a.block := by unfold Addr.add; split <;> rfl
theorem add_of_add (a : Addr) (i j : Nat) : (a.add i).add j = a.add (i + j) := by
  unfold Addr.add
  by_cases hi : i = 0 <;> by_cases hj : j = 0 <;> simp [hi, hj, Nat.add_assoc]

/-- What cells read stays where every cell that was there stays. -/
def Keeps (w w' : World) : Prop := ∀ (p : Addr) (v : Value), w.cell? p = some v → w'.cell? p = some v

theorem Keeps.refl (w : World) : Keeps w w := fun _ _ h => h
theorem Keeps.trans {a b c : World} (h : Keeps a b) (k : Keeps b c) : Keeps a c := fun p v hp => k p v (h p v hp)
theorem block_lt {w : World} {p : Addr} {v : Value} (h : w.cell? p = some v) : p.block < w.heap.size := block_lt_of_cell h
theorem Keeps.of_below {w w' : World} (h : Below w.heap.size w w') : Keeps w w' := fun p v hp => by rw [h.cell (block_lt hp)]; exact hp
theorem Keeps.drewN {a w : World} (h : Keeps a w) (n : Nat) : Keeps a (w.drewN n) := h
theorem Keeps.alloc {a w : World} (h : Keeps a w) (o : Obj) : Keeps a (w.alloc o) := fun p v hp => by
  rw [World.cell?_alloc_lt w o p (block_lt (h p v hp))]; exact h p v hp

theorem Nums.keep {kd : IntKind} {w w' : World} {A : Option Addr} {n : Nat} {xs : List Int} (h : Nums kd w A n xs) (hk : Keeps w w') : Nums kd w' A n xs :=
  ⟨h.1, h.2.1, fun hn => by obtain ⟨ad, ha, hc⟩ := h.2.2 hn; exact ⟨ad, ha, fun j x hx => hk _ _ (hc j x hx)⟩⟩
theorem Nums.nil (kd : IntKind) (w : World) (A : Option Addr) : Nums kd w A 0 [] := ⟨rfl, by simp, fun h => absurd h (by omega)⟩

theorem below_drewN {B : Nat} {a w : World} (h : Below B a w) (n : Nat) : Below B a (w.drewN n) := ⟨h.os, h.tape, h.output, h.size, h.block⟩

/-- A fact: its values, its measures. -/
structure Fact where
  key : List Int
  m : List Int

/-- The two cells of a row at ad. -/
def RowAt (w : World) (ad : Addr) (r : Fact) : Prop :=
  ∃ A c B d, w.cell? ad = some (.slice A r.key.length c) ∧ w.cell? ⟨ad.block, ad.off + 1, none⟩ = some (.slice B r.m.length d) ∧ Nums .i64 w A r.key.length r.key ∧ Nums .i64 w B r.m.length r.m

/-- A slice of rows. -/
def Facts (w : World) (A : Option Addr) (n : Nat) (l : List Fact) : Prop :=
  l.length = n ∧ (0 < n → ∃ ad, A = some ad ∧ ∀ (j : Nat) (r : Fact), l[j]? = some r → RowAt w (ad.add (j * 2)) r)

theorem RowAt.keep {w w' : World} {ad : Addr} {r : Fact} (h : RowAt w ad r) (hk : Keeps w w') : RowAt w' ad r := by
  obtain ⟨A, c, B, d, h1, h2, h3, h4⟩ := h
  exact ⟨A, c, B, d, hk _ _ h1, hk _ _ h2, h3.keep hk, h4.keep hk⟩
theorem Facts.keep {w w' : World} {A : Option Addr} {n : Nat} {l : List Fact} (h : Facts w A n l) (hk : Keeps w w') : Facts w' A n l :=
  ⟨h.1, fun hn => by obtain ⟨ad, ha, hc⟩ := h.2 hn; exact ⟨ad, ha, fun j r hr => (hc j r hr).keep hk⟩⟩
theorem Facts.at_ {w : World} {A : Option Addr} {n : Nat} {l : List Fact} (h : Facts w A n l) {k : Nat} (hk : k < n) :
    ∃ ad r, A = some ad ∧ l[k]? = some r ∧ RowAt w (ad.add (k * 2)) r := by
  obtain ⟨hl, hc⟩ := h
  obtain ⟨ad, ha, hc⟩ := hc (by omega)
  have hx : l[k]? = some l[k] := List.getElem?_eq_getElem (by omega)
  exact ⟨ad, l[k], ha, hx, hc _ _ hx⟩
theorem Facts.nil (w : World) (A : Option Addr) : Facts w A 0 [] := ⟨rfl, fun h => absurd h (by omega)⟩

/-- All old cells and marks read as before. -/
theorem bcell {W w1 : World} (hb : Below W.heap.size W w1) : (∀ b o, b < W.heap.size → w1.cell? ⟨b, o, none⟩ = W.cell? ⟨b, o, none⟩) ∧ (∀ b o, b < W.heap.size → w1.frozen? ⟨b, o, none⟩ = W.frozen? ⟨b, o, none⟩) :=
  ⟨fun b o h => hb.cell (p := ⟨b, o, none⟩) h, fun b o h => hb.frozen (p := ⟨b, o, none⟩) h⟩
theorem RowAt.len {w : World} {ad : Addr} {r : Fact} (h : RowAt w ad r) : ∃ A c B d, w.cell? ad = some (.slice A r.key.length c) ∧ w.cell? ⟨ad.block, ad.off + 1, none⟩ = some (.slice B r.m.length d) := by
  obtain ⟨A, c, B, d, h1, h2, _⟩ := h
  exact ⟨A, c, B, d, h1, h2⟩

/-- A box that the call laid reads as it was laid. -/
theorem box_at {w wr : World} {cs : Array Value} {t : TypeId} {B : Nat} (hb : Below B (w.alloc (.cells cs t)) wr) (hB : w.heap.size < B) (i : Nat) : wr.cell? ⟨w.heap.size, i, none⟩ = cs[i]? := by
  rw [hb.cell (by exact hB)]
  exact cell_of_row _ _ _ cs t (0, 0) (heap_alloc_new w _)

/-! ### A row of bytes of the call's own, filled bit by bit -/
/-- Block g holds just these bytes. -/
def Buf (w : World) (g : Nat) (bs : List Int) : Prop := w.heap[g]? = some (.cells (bs.map (Value.int .u8)).toArray 5 (0, 0))
theorem Buf.lt {w : World} {g : Nat} {bs : List Int} (h : Buf w g bs) : g < w.heap.size := by
  rcases Nat.lt_or_ge g w.heap.size with hlt | hge
  · exact hlt
  · unfold Buf at h; rw [Array.getElem?_eq_none hge] at h; cases h
theorem Buf.cell {w : World} {g : Nat} {bs : List Int} (h : Buf w g bs) {i : Nat} {x : Int} (hx : bs[i]? = some x) : w.cell? ⟨g, i, none⟩ = some (.int .u8 x) := by
  rw [cell_of_row w g i _ _ (0, 0) h]
  simp [hx]
theorem Buf.frozen {w : World} {g : Nat} {bs : List Int} (h : Buf w g bs) (i : Nat) : w.frozen? ⟨g, i, none⟩ = false := by
  unfold Buf at h
  simp [World.frozen?, h]
theorem Buf.set_ {w : World} {g : Nat} {bs : List Int} (h : Buf w g bs) (i : Nat) (x : Int) : Buf (w.setCell ⟨g, i, none⟩ (.int .u8 x)) g (bs.set i x) := by
  unfold Buf at h ⊢
  simp [World.setCell, Array.getElem?_modify, h, List.map_set]

/-- From w on nothing that was there has turned but block g. -/
structure Only (g : Nat) (w w' : World) : Prop where
  os : w'.os = w.os
  tape : w'.tape = w.tape
  output : w'.output = w.output
  size : w.heap.size ≤ w'.heap.size
  block : ∀ k, k < w.heap.size → k ≠ g → w'.heap[k]? = w.heap[k]?
theorem Only.refl (g : Nat) (w : World) : Only g w w := ⟨rfl, rfl, rfl, Nat.le_refl _, fun _ _ _ => rfl⟩
theorem Only.trans {g : Nat} {a b c : World} (h : Only g a b) (k : Only g b c) : Only g a c :=
  ⟨k.os.trans h.os, k.tape.trans h.tape, k.output.trans h.output, Nat.le_trans h.size k.size, fun i hi hne => (k.block i (Nat.lt_of_lt_of_le hi h.size) hne).trans (h.block i hi hne)⟩
theorem Only.of_below {g : Nat} {w w' : World} (h : Below w.heap.size w w') : Only g w w' := ⟨h.os, h.tape, h.output, h.size, fun k hk _ => h.block k hk⟩
theorem Only.setCell {g : Nat} {a w : World} (h : Only g a w) (i : Nat) (v : Value) : Only g a (w.setCell ⟨g, i, none⟩ v) :=
  h.trans ⟨rfl, rfl, rfl, by simp [World.setCell], fun k _ hne => Below.heap_setCell _ _ _ _ hne⟩
theorem Only.below {g B : Nat} {w w' : World} (h : Only g w w') (hB : B ≤ g) (hs : B ≤ w.heap.size) : Below B w w' :=
  ⟨h.os, h.tape, h.output, h.size, fun k hk => h.block k (by omega) (by omega)⟩

/-- bs with ys laid in at off. -/
def spl (bs : List Int) (off : Nat) (ys : List Int) : List Int := bs.take off ++ ys ++ bs.drop (off + ys.length)
theorem spl_nil (bs : List Int) (off : Nat) : spl bs off [] = bs := by simp [spl]
theorem spl_len {bs : List Int} {off : Nat} {ys : List Int} (h : off + ys.length ≤ bs.length) : (spl bs off ys).length = bs.length := by
  simp [spl]; omega
theorem spl_snoc {bs : List Int} {off : Nat} {ys : List Int} (h : off + ys.length < bs.length) (x : Int) : (spl bs off ys).set (off + ys.length) x = spl bs off (ys ++ [x]) := by
  unfold spl
  have h1 : (bs.take off).length = off := by simp; omega
  rw [List.append_assoc, List.set_append_right _ _ (by omega), List.set_append_right _ _ (by omega), h1]
  have h2 : off + ys.length - off - ys.length = 0 := by omega
  rw [h2, List.drop_eq_getElem_cons h]
  simp [List.append_assoc, Nat.add_assoc]
theorem spl_spl {bs : List Int} {off : Nat} {ys zs : List Int} (h : off + ys.length ≤ bs.length) : spl (spl bs off ys) (off + ys.length) zs = spl bs off (ys ++ zs) := by
  unfold spl
  have h1 : (bs.take off ++ ys).length = off + ys.length := by simp; omega
  have e1 : (bs.take off ++ ys ++ bs.drop (off + ys.length)).take (off + ys.length) = bs.take off ++ ys := by
    rw [List.take_append_of_le_length (by omega), List.take_of_length_le (by omega)]
  have e2 : (bs.take off ++ ys ++ bs.drop (off + ys.length)).drop (off + ys.length + zs.length) = bs.drop (off + (ys ++ zs).length) := by
    rw [List.drop_append, List.drop_eq_nil_of_le (by omega), h1, List.nil_append, List.drop_drop, List.length_append]
    congr 1; omega
  rw [e1, e2]
  simp [List.append_assoc]
theorem spl_some {bs : List Int} {off : Nat} {ys : List Int} (h : off + ys.length < bs.length) : ∃ x, (spl bs off ys)[off + ys.length]? = some x :=
  ⟨_, List.getElem?_eq_getElem (by rw [spl_len (by omega)]; exact h)⟩

/-- The k bytes of x, the highest first. -/
def be (k : Nat) (x : Int) : List Int := (List.range k).map fun i => x / 2 ^ (8 * (k - 1 - i)) % 256
theorem be_len (k : Nat) (x : Int) : (be k x).length = k := by simp [be]
theorem be_at {k i : Nat} (x : Int) (h : i < k) : (be k x)[i]? = some (x / 2 ^ (8 * (k - 1 - i)) % 256) := by simp [be, h]
theorem be_take {k i : Nat} (x : Int) (h : i < k) : (be k x).take (i + 1) = (be k x).take i ++ [x / 2 ^ (8 * (k - 1 - i)) % 256] := by
  rw [List.take_add_one, be_at x h]; rfl

/-- What is left of a buffer behind off: n bytes. -/
def Rest (g off n : Nat) (v : Value) : Prop := ∃ ad, v = .slice (some ad) n n ∧ (0 < n → ad = ⟨g, off, none⟩)
/-- What a put leaves: ys are laid in at off, the rest is told. -/
def PutPost (g off n : Nat) (bs ys : List Int) (w : World) (e : Ending) (w' : World) : Prop :=
  ∃ v, e = .returned v ∧ Rest g (off + ys.length) (n - ys.length) v ∧ Buf w' g (spl bs off ys) ∧ Only g w w'

/-- A callee that leaves the world alone, met in a region that draws. -/
theorem quiet_left {P : Program} {f : FuncId} {args : Array Value} {w : World} {n : Nat} {v : Value}
    (h : Calls P f args (w.drewN n) fun e w' => e = .returned v ∧ w.drewN n = w') : Calls P f args (w.drewN n) fun e w'' => e = .returned v ∧ ∃ m, w'' = w.drewN m :=
  h.mono fun _ _ ⟨he, hw⟩ => ⟨he, n, hw.symm⟩

theorem ret_int {k : IntKind} {a b : Int} (h : a = b) : Ending.returned (.int k a) = .returned (.int k b) := by rw [h]

theorem PutPost.out {g off n k : Nat} {bs ys : List Int} {w w' : World} {e : Ending} (h : PutPost g off n bs ys w e w') (hk : ys.length = k) :
    ∃ ad, e = .returned (.slice (some ad) (n - k) (n - k)) ∧ (k < n → ad = ⟨g, off + k, none⟩) ∧ Buf w' g (spl bs off ys) ∧ Only g w w' := by
  subst hk
  obtain ⟨v, rfl, ⟨ad, rfl, had⟩, h1, h2⟩ := h
  exact ⟨ad, rfl, fun h => had (by omega), h1, h2⟩
theorem PutPost.mk {g off n k : Nat} {bs ys : List Int} {w w' : World} {ad : Addr} (hk : ys.length = k) (had : k < n → ad = ⟨g, off + k, none⟩) (h1 : Buf w' g (spl bs off ys)) (h2 : Only g w w') :
    PutPost g off n bs ys w (.returned (.slice (some ad) (n - k) (n - k))) w' := by
  subst hk
  exact ⟨_, rfl, ⟨ad, rfl, fun h => had (by omega)⟩, h1, h2⟩
/-- A box that the call laid ahead of the writes into g reads as it was laid. -/
theorem Only.box {g : Nat} {w w1 : World} {cs : Array Value} {t : TypeId} (h : Only g (w.alloc (.cells cs t)) w1) (hg : g < w.heap.size) (i : Nat) : w1.cell? ⟨w.heap.size, i, none⟩ = cs[i]? := by
  have := h.block w.heap.size (by simp) (by omega)
  rw [cell_of_row w1 _ i cs t (0, 0) (this.trans (heap_alloc_new w _))]
theorem Only.of_alloc {g : Nat} {a w : World} (h : Only g a w) (o : Obj) : Only g a (w.alloc o) :=
  h.trans ⟨rfl, rfl, rfl, by simp, fun k hk _ => Below.heap_alloc _ _ _ hk⟩

/-- A row of n zero bytes, made anew. -/
theorem make_bytes {P : Program} (t e : TypeId) (i : TypeInfo) (ht : P.underlying t = some (.slice e)) (hi : P.info? e = some i) (hz : i.zero = some (.int .u8 0)) (hs : i.size = 1) (hb : i.bytes = 1) (n : Nat) (hn : n ≤ 281474976710656) (w : World) :
    (Instr.makeSlice t (.int .i64 (n : Int)) (.int .i64 (n : Int))).run P w = .ok (.slice (some ⟨w.heap.size, 0, none⟩) n n) (w.alloc (.cells (madeCells #[.int .u8 0] n) e)) := by
  have hr := run_make (P := P) w t e i (.int .u8 0) ht hi hz .i64 .i64 n n (by omega) (by omega) (by rw [hb]; omega) (by omega)
  simpa [hs, Value.cells] using hr
theorem Buf.made (w : World) (n : Nat) : Buf (w.alloc (.cells (madeCells #[.int .u8 0] n) 5)) w.heap.size (List.replicate n 0) := by
  unfold Buf
  rw [heap_alloc_new]
  congr 2
  apply Array.ext'
  rw [toList_madeCells_one, List.toList_toArray, List.map_replicate]

/-- A slice's rest, from k on. -/
theorem Nums.drop {kd : IntKind} {w : World} {ad : Addr} {n k : Nat} {xs : List Int} (h : Nums kd w (some ad) n xs) (hk : k ≤ n) : Nums kd w (some (ad.add k)) (n - k) (xs.drop k) := by
  refine ⟨by rw [List.length_drop, h.1], fun x hx => h.2.1 x (List.mem_of_mem_drop hx), fun hn => ?_⟩
  obtain ⟨ad', e, hc⟩ := h.2.2 (by omega)
  injection e with e
  subst e
  exact ⟨_, rfl, fun j x hx => by rw [add_of_add]; exact hc _ x (by rw [← hx, List.getElem?_drop])⟩
theorem Nums.end_ {kd : IntKind} {w : World} {ad : Addr} {n : Nat} {xs : List Int} (h : Nums kd w (some ad) n xs) (A : Option Addr) : Nums kd w A (n - n) (xs.drop n) := by
  rw [Nat.sub_self, List.drop_eq_nil_of_le (Nat.le_of_eq h.1)]
  exact Nums.nil _ _ _
theorem Nums.drewN {kd : IntKind} {w : World} {A : Option Addr} {n : Nat} {xs : List Int} (h : Nums kd w A n xs) (q : Nat) : Nums kd (w.drewN q) A n xs := h
/-- Wherever n bytes at ad read as xs, what is behind the first k of them is at A. -/
def Tail (ad A : Addr) (n k : Nat) (xs : List Int) : Prop := ∀ W, Nums .u8 W (some ad) n xs → Nums .u8 W (some A) (n - k) (xs.drop k)
theorem Tail.zero (ad : Addr) (n : Nat) (xs : List Int) : Tail ad ad n 0 xs := fun _ h => h
theorem Tail.add_ (ad : Addr) {n k : Nat} (xs : List Int) (h : k ≤ n) : Tail ad (ad.add k) n k xs := fun _ hx => hx.drop h
theorem Tail.end_ (ad A : Addr) (n : Nat) (xs : List Int) : Tail ad A n n xs := fun _ hx => hx.end_ _
theorem Tail.trans {ad A B : Addr} {n k j : Nat} {xs : List Int} (h : Tail ad A n k xs) (h2 : Tail A B (n - k) j (xs.drop k)) : Tail ad B n (k + j) xs := fun W hx => by
  have := h2 W (h W hx)
  rwa [List.drop_drop, Nat.sub_sub] at this
/-- What a take leaves: the number, the rest; the world but for draws as it was. -/
def TakePost (ad : Addr) (n c k : Nat) (xs : List Int) (v : Int) (w : World) (e : Ending) (w' : World) : Prop :=
  ∃ A, e = .returned (.tuple #[.int .i64 v, .slice (some A) (n - k) (c - k)]) ∧ Tail ad A n k xs ∧ ∃ q, w' = w.drewN q

/-! ### A row of numbers of the call's own, of any kind -/
/-- Block g holds just these numbers. -/
def Arr (kd : IntKind) (T : TypeId) (w : World) (g : Nat) (xs : List Int) : Prop := w.heap[g]? = some (.cells (xs.map (Value.int kd)).toArray T (0, 0))
section
variable {kd : IntKind} {T : TypeId} {w w' : World} {g : Nat} {xs : List Int}
theorem Arr.lt (h : Arr kd T w g xs) : g < w.heap.size := by
  rcases Nat.lt_or_ge g w.heap.size with hlt | hge
  · exact hlt
  · unfold Arr at h; rw [Array.getElem?_eq_none hge] at h; cases h
theorem Arr.cell (h : Arr kd T w g xs) {i : Nat} {x : Int} (hx : xs[i]? = some x) : w.cell? ⟨g, i, none⟩ = some (.int kd x) := by
  rw [cell_of_row w g i _ _ (0, 0) h]
  simp [hx]
theorem Arr.frozen (h : Arr kd T w g xs) (i : Nat) : w.frozen? ⟨g, i, none⟩ = false := by
  unfold Arr at h
  simp [World.frozen?, h]
theorem Arr.set_ (h : Arr kd T w g xs) (i : Nat) (x : Int) : Arr kd T (w.setCell ⟨g, i, none⟩ (.int kd x)) g (xs.set i x) := by
  unfold Arr at h ⊢
  simp [World.setCell, Array.getElem?_modify, h, List.map_set]
theorem Arr.drewN (h : Arr kd T w g xs) (n : Nat) : Arr kd T (w.drewN n) g xs := h
theorem Arr.alloc (h : Arr kd T w g xs) (o : Obj) : Arr kd T (w.alloc o) g xs := (Below.heap_alloc _ _ _ h.lt).trans h
theorem Arr.below {B : Nat} (h : Arr kd T w g xs) (hb : Below B w w') (hg : g < B) : Arr kd T w' g xs := (hb.block g hg).trans h
theorem Arr.nums (h : Arr kd T w g xs) (hk : ∀ x ∈ xs, inK kd x) : Nums kd w (some ⟨g, 0, none⟩) xs.length xs := by
  refine ⟨rfl, hk, fun _ => ⟨_, rfl, fun j x hx => ?_⟩⟩
  have e : (Addr.add ⟨g, 0, none⟩ j) = ⟨g, j, none⟩ := by
    unfold Addr.add
    split
    · simp [*]
    · simp
  rw [e]
  exact h.cell hx
end
theorem below_setCell {B : Nat} {a w : World} (h : Below B a w) {g : Nat} (hg : B ≤ g) (i : Nat) (u : Value) : Below B a (w.setCell ⟨g, i, none⟩ u) := h.setCell hg u
/-- A row of n zeros, made anew. -/
theorem make_ints {P : Program} (t e : TypeId) (i : TypeInfo) (ht : P.underlying t = some (.slice e)) (hi : P.info? e = some i) (hz : i.zero = some (.int .i64 0)) (hs : i.size = 1) (hb : i.bytes = 8) (n : Nat) (hn : n ≤ 35184372088832) (w : World) :
    (Instr.makeSlice t (.int .i64 (n : Int)) (.int .i64 (n : Int))).run P w = .ok (.slice (some ⟨w.heap.size, 0, none⟩) n n) (w.alloc (.cells (madeCells #[.int .i64 0] n) e)) := by
  have hr := run_make (P := P) w t e i (.int .i64 0) ht hi hz .i64 .i64 n n (by omega) (by omega) (by rw [hb]; omega) (by omega)
  simpa [hs, Value.cells] using hr
theorem Arr.made (w : World) (T : TypeId) (n : Nat) : Arr .i64 T (w.alloc (.cells (madeCells #[.int .i64 0] n) T)) w.heap.size (List.replicate n 0) := by
  unfold Arr
  rw [heap_alloc_new]
  congr 2
  apply Array.ext'
  rw [toList_madeCells_one, List.toList_toArray, List.map_replicate]
/-- What a takeAll leaves: the numbers in a row of their own, the rest of the bytes. -/
def TakeAllPost (ad : Addr) (k cnt n c : Nat) (xs vals : List Int) (w : World) (e : Ending) (w' : World) : Prop :=
  ∃ g A, e = .returned (.tuple #[.slice (some ⟨g, 0, none⟩) cnt cnt, .slice (some A) (n - k * cnt) (c - k * cnt)]) ∧ Arr .i64 3 w' g vals ∧ w.heap.size ≤ g ∧
    Tail ad A n (k * cnt) xs ∧ Below w.heap.size w w'

theorem spl_behind {bs : List Int} {off k : Nat} {ys : List Int} (zs : List Int) (hk : ys.length = k) (h : off + k ≤ bs.length) : spl (spl bs off ys) (off + k) zs = spl bs off (ys ++ zs) := by
  subst hk
  exact spl_spl h
theorem Arr.sets {kd : IntKind} {T : TypeId} {g : Nat} : ∀ (l : List Int) (off : Nat) (w : World) (bs : List Int), Arr kd T w g bs → off + l.length ≤ bs.length →
    Arr kd T (w.setCells g off (l.map (Value.int kd))) g (spl bs off l) ∧ Only g w (w.setCells g off (l.map (Value.int kd))) ∧ (w.setCells g off (l.map (Value.int kd))).heap.size = w.heap.size
  | [], off, w, bs, h, _ => by rw [spl_nil]; exact ⟨h, Only.refl _ _, rfl⟩
  | x :: t, off, w, bs, h, hl => by
    simp only [List.length_cons] at hl
    have e1 : bs.set off x = spl bs off [x] := by
      have := spl_snoc (bs := bs) (off := off) (ys := []) (by simp; omega) x
      rw [spl_nil] at this
      simpa using this
    have h1 := h.set_ off x
    rw [e1] at h1
    have hlen : (spl bs off [x]).length = bs.length := spl_len (by simp; omega)
    obtain ⟨h2, h3, h4⟩ := Arr.sets t (off + 1) _ _ h1 (by rw [hlen]; omega)
    rw [spl_behind t (k := 1) rfl (by omega)] at h2
    exact ⟨h2, ((Only.refl g w).setCell off _).trans h3, h4.trans (by simp [World.setCell])⟩
/-- copy from a slice of numbers into a row of the call's own, from its beginning on. -/
theorem copy_nums {P : Program} {kd : IntKind} {T : TypeId} (dT sT ty elem : TypeId) (hu : P.underlying dT = some (.slice elem)) (hs : (P.info? elem).map (·.size) = some 1) (w : World) (g m c : Nat) (bs xs : List Int) (A : Option Addr)
    (hB : Arr kd T w g bs) (hx : Nums kd w A m xs) :
    ∃ w1, (Builtin.copy_ #[dT, sT] ty #[.slice (some ⟨g, 0, none⟩) bs.length bs.length, .slice A m c]).run P w = .ok (goInt ((Nat.min m bs.length : Nat) : Int)) w1 ∧ Arr kd T w1 g (spl bs 0 (xs.take bs.length)) ∧ Only g w w1 ∧ w1.heap.size = w.heap.size := by
  by_cases h0 : Nat.min m bs.length = 0
  · refine ⟨w, ?_, ?_, Only.refl _ _, rfl⟩
    · rw [h0]
      exact run_copy_none w dT sT ty elem _ _ _ _ _ _ hu hs h0
    · have e : xs.take bs.length = [] := by
        apply List.eq_nil_of_length_eq_zero
        rw [List.length_take, hx.1]
        simpa [Nat.min_comm] using h0
      rw [e, spl_nil]
      exact hB
  · have hm : 0 < m := by
      rcases Nat.eq_zero_or_pos m with h | h
      · rw [h] at h0; exact absurd (Nat.zero_min _) h0
      · exact h
    obtain ⟨ad, rfl, hc⟩ := hx.2.2 hm
    have hl : ((xs.take bs.length).map (Value.int kd)).length = Nat.min m bs.length := by
      rw [List.length_map, List.length_take, hx.1]
      exact Nat.min_comm _ _
    have hle : Nat.min m bs.length ≤ bs.length := Nat.min_le_right _ _
    obtain ⟨h1, h2, h3⟩ := Arr.sets (xs.take bs.length) 0 w bs hB (by rw [List.length_map] at hl; rw [hl]; omega)
    have hr := run_copy_cells (P := P) w dT sT ty elem g 0 bs.length bs.length ad m c ((xs.take bs.length).map (Value.int kd)) hu hs hl
      (fun j v hv => by
        rw [List.getElem?_map, Option.map_eq_some_iff] at hv
        obtain ⟨x, hx1, rfl⟩ := hv
        exact hc j x (by rw [List.getElem?_take] at hx1; split at hx1 <;> simp_all))
      (fun j hj => by
        have hj' : 0 + j < bs.length := by omega
        rw [hB.cell (List.getElem?_eq_getElem hj')]; rfl)
      (fun j _ => hB.frozen _)
      (fun v hv => by
        obtain ⟨x, _, rfl⟩ := List.mem_map.1 hv
        rfl)
    rw [hl] at hr
    exact ⟨_, hr, h1, h2, h3⟩

/-! ### Bytes as a string -/
def strOf (ns : List Int) : ByteArray := ⟨(ns.map fun n => UInt8.ofNat n.toNat).toArray⟩
theorem fold_push (ns : List Int) : ∀ (s : ByteArray), ns.foldl (fun r n => r.push (UInt8.ofNat n.toNat)) s = ⟨s.data ++ (ns.map fun n => UInt8.ofNat n.toNat).toArray⟩ := by
  induction ns with
  | nil => intro s; simp
  | cons n t ih =>
    intro s
    rw [List.foldl_cons, ih]
    congr 1
    simp [ByteArray.push]
theorem conv_str {P : Program} (src dst e : TypeId) (hs : P.underlying src = some (.slice e)) (he : P.underlying e = some (.int .u8)) (hd : P.underlying dst = some .string) (w : World) (A : Option Addr) (n c : Nat) (xs : List Int) (hx : Nums .u8 w A n xs) :
    (convert src dst (.slice A n c)).run P w = .ok (.string (strOf xs)) w := by
  rw [run_convert_bytes_string w src dst e A n c hs he hd]
  cases A with
  | none =>
    have h0 : n = 0 := by
      rcases Nat.eq_zero_or_pos n with h | h
      · exact h
      · obtain ⟨_, e, _⟩ := hx.2.2 h; cases e
    subst h0
    have e : xs = [] := List.eq_nil_of_length_eq_zero hx.1
    subst e
    rfl
  | some ad =>
    have hl : (loadCells ad n).run P w = .ok (xs.map (Value.int .u8)).toArray w := by
      have := run_loadCells_list (P := P) w ad (xs.map (Value.int .u8)) (fun j v hv => by
        rw [List.getElem?_map, Option.map_eq_some_iff] at hv
        obtain ⟨x, hx1, rfl⟩ := hv
        have hj : j < n := by rw [← hx.1]; exact (List.getElem?_eq_some_iff.1 hx1).1
        obtain ⟨ad', e, hc⟩ := hx.2.2 (by omega)
        injection e with e
        subst e
        exact hc j x hx1)
      rwa [List.length_map, hx.1] at this
    rw [run_bytesToString w ad n c xs hl, fold_push]
    simp [strOf]

theorem Nums.take {kd : IntKind} {w : World} {A : Option Addr} {n : Nat} {xs : List Int} (h : Nums kd w A n xs) (k : Nat) (hk : k ≤ n) : Nums kd w A k (xs.take k) := by
  refine ⟨by rw [List.length_take, h.1]; exact Nat.min_eq_left hk, fun x hx => h.2.1 x (List.mem_of_mem_take hx), fun hn => ?_⟩
  obtain ⟨ad, e, hc⟩ := h.2.2 (by omega)
  exact ⟨ad, e, fun j x hx => hc j x (by rw [List.getElem?_take] at hx; split at hx <;> simp_all)⟩

theorem byte_inj {a b : Int} (ha : 0 ≤ a ∧ a ≤ 255) (hb : 0 ≤ b ∧ b ≤ 255) (h : UInt8.ofNat a.toNat = UInt8.ofNat b.toNat) : a = b := by
  have := congrArg UInt8.toNat h
  simp only [UInt8.toNat_ofNat'] at this
  omega
theorem strOf_inj : ∀ {xs ys : List Int}, (∀ x ∈ xs, 0 ≤ x ∧ x ≤ 255) → (∀ x ∈ ys, 0 ≤ x ∧ x ≤ 255) → (xs.map fun n => UInt8.ofNat n.toNat) = (ys.map fun n => UInt8.ofNat n.toNat) → xs = ys
  | [], [], _, _, _ => rfl
  | x :: xs, y :: ys, hx, hy, h => by
    simp only [List.map_cons, List.cons.injEq] at h
    rw [byte_inj (hx x (by simp)) (hy y (by simp)) h.1, strOf_inj (fun z hz => hx z (by simp [hz])) (fun z hz => hy z (by simp [hz])) h.2]
  | [], _ :: _, _, _, h => by simp at h
  | _ :: _, [], _, _, h => by simp at h
theorem strOf_list (xs : List Int) : (strOf xs).toList = xs.map fun n => UInt8.ofNat n.toNat := by rw [Lib.toList_data]; simp [strOf]
/-- Two texts are one just where their bytes are. -/
theorem strOf_beq {xs ys : List Int} (hx : ∀ x ∈ xs, 0 ≤ x ∧ x ≤ 255) (hy : ∀ x ∈ ys, 0 ≤ x ∧ x ≤ 255) : ((strOf xs).toList == (strOf ys).toList) = decide (xs = ys) := by
  rw [strOf_list, strOf_list]
  by_cases h : xs = ys
  · subst h; simp
  · rw [decide_eq_false h]
    exact beq_eq_false_iff_ne.2 fun e => h (strOf_inj hx hy e)

/-! ### A box of two cells of the call's own -/
def Box2 (T : TypeId) (w : World) (g : Nat) (a b : Value) : Prop := w.heap[g]? = some (.cells #[a, b] T (0, 0))
section
variable {T : TypeId} {w w' : World} {g : Nat} {a b : Value}
theorem Box2.lt (h : Box2 T w g a b) : g < w.heap.size := by
  rcases Nat.lt_or_ge g w.heap.size with hlt | hge
  · exact hlt
  · unfold Box2 at h; rw [Array.getElem?_eq_none hge] at h; cases h
theorem Box2.cell0 (h : Box2 T w g a b) : w.cell? ⟨g, 0, none⟩ = some a := cell_of_row w g 0 _ _ (0, 0) h
theorem Box2.cell1 (h : Box2 T w g a b) : w.cell? ⟨g, 1, none⟩ = some b := cell_of_row w g 1 _ _ (0, 0) h
theorem Box2.frozen (h : Box2 T w g a b) (i : Nat) : w.frozen? ⟨g, i, none⟩ = false := by
  unfold Box2 at h
  simp [World.frozen?, h]
theorem Box2.set0 (h : Box2 T w g a b) (v : Value) : Box2 T (w.setCell ⟨g, 0, none⟩ v) g v b := by
  unfold Box2 at h ⊢
  simp [World.setCell, Array.getElem?_modify, h]
theorem Box2.set1 (h : Box2 T w g a b) (v : Value) : Box2 T (w.setCell ⟨g, 1, none⟩ v) g a v := by
  unfold Box2 at h ⊢
  simp [World.setCell, Array.getElem?_modify, h]
theorem Box2.drewN (h : Box2 T w g a b) (n : Nat) : Box2 T (w.drewN n) g a b := h
theorem Box2.alloc (h : Box2 T w g a b) (o : Obj) : Box2 T (w.alloc o) g a b := (Below.heap_alloc _ _ _ h.lt).trans h
theorem Box2.below {B : Nat} (h : Box2 T w g a b) (hb : Below B w w') (hg : g < B) : Box2 T w' g a b := (hb.block g hg).trans h
theorem Box2.only {k : Nat} (h : Box2 T w g a b) (hb : Only k w w') (hg : g ≠ k) : Box2 T w' g a b := (hb.block g h.lt hg).trans h
theorem Box2.new (w : World) (T : TypeId) (a b : Value) : Box2 T (w.alloc (.cells #[a, b] T)) w.heap.size a b := heap_alloc_new w _
end

end Go.Proofs.Ytmolfcccfekcpaa
