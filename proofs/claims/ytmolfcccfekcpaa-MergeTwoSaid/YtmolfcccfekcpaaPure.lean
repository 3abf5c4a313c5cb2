/- Plain mathematics for the layers: sums that stay, numbers as bytes, facts as bytes. No Go text in sight. -/
import Derived.Test.YtmolfcccfekcpaaBase
namespace Go.Proofs.Ytmolfcccfekcpaa
open Go.RowKit

/-! ### Sums of what is above 0, of what is below (P102) -/
def upS : List Int → Int
  | [] => 0
  | x :: t => max x 0 + upS t
def dnS : List Int → Int
  | [] => 0
  | x :: t => min x 0 + dnS t
theorem upS_append (a b : List Int) : upS (a ++ b) = upS a + upS b := by
  induction a with
  | nil => simp [upS]
  | cons x t ih => simp only [List.cons_append, upS, ih]; omega
theorem dnS_append (a b : List Int) : dnS (a ++ b) = dnS a + dnS b := by
  induction a with
  | nil => simp [dnS]
  | cons x t ih => simp only [List.cons_append, dnS, ih]; omega
theorem upS_nonneg (a : List Int) : 0 ≤ upS a := by
  induction a with
  | nil => simp [upS]
  | cons x t ih => simp only [upS]; omega
theorem dnS_nonpos (a : List Int) : dnS a ≤ 0 := by
  induction a with
  | nil => simp [dnS]
  | cons x t ih => simp only [dnS]; omega
theorem upS_take_le (a : List Int) (k : Nat) : upS (a.take k) ≤ upS a := by
  have h := upS_append (a.take k) (a.drop k)
  rw [List.take_append_drop] at h
  have := upS_nonneg (a.drop k)
  omega
theorem dnS_take_ge (a : List Int) (k : Nat) : dnS a ≤ dnS (a.take k) := by
  have h := dnS_append (a.take k) (a.drop k)
  rw [List.take_append_drop] at h
  have := dnS_nonpos (a.drop k)
  omega
theorem take_snoc {α : Type} {a : List α} {k : Nat} {x : α} (h : a[k]? = some x) : a.take (k + 1) = a.take k ++ [x] := by
  rw [List.take_add_one, h]; rfl
theorem upS_snoc {a : List Int} {k : Nat} {x : Int} (h : a[k]? = some x) : upS (a.take (k + 1)) = upS (a.take k) + max x 0 := by
  rw [take_snoc h, upS_append]; simp [upS]
theorem dnS_snoc {a : List Int} {k : Nat} {x : Int} (h : a[k]? = some x) : dnS (a.take (k + 1)) = dnS (a.take k) + min x 0 := by
  rw [take_snoc h, dnS_append]; simp [dnS]

/-- The sums of one measure stay what an int can be. -/
def fitsB (xs : List Int) : Bool := decide (upS xs ≤ 9223372036854775807) && decide (-9223372036854775808 ≤ dnS xs)
theorem fitsB_yes {xs : List Int} (h1 : upS xs ≤ 9223372036854775807) (h2 : -9223372036854775808 ≤ dnS xs) : fitsB xs = true := by simp [fitsB, h1, h2]
theorem fitsB_up {xs : List Int} (k : Nat) (h : 9223372036854775807 < upS (xs.take k)) : fitsB xs = false := by
  have := upS_take_le xs k
  have h' : ¬ upS xs ≤ 9223372036854775807 := by omega
  simp [fitsB, h']
theorem fitsB_dn {xs : List Int} (k : Nat) (h : dnS (xs.take k) < -9223372036854775808) : fitsB xs = false := by
  have := dnS_take_ge xs k
  have h' : ¬ -9223372036854775808 ≤ dnS xs := by omega
  simp [fitsB, h']
/-- The numbers of measure m. -/
def col (l : List Fact) (m : Nat) : List Int := l.map fun r => r.m.getD m 0
theorem col_at {l : List Fact} {k m : Nat} {r : Fact} {x : Int} (h : l[k]? = some r) (hx : r.m[m]? = some x) : (col l m)[k]? = some x := by
  simp [col, h, hx]
theorem col_len (l : List Fact) (m : Nat) : (col l m).length = l.length := by simp [col]

/-! ### Schemas and rows that may be (P101) -/
def cardsB (cs : List Int) : Bool := cs.all fun x => decide (1 ≤ x) && decide (x ≤ 16)
def checkB (cs : List Int) (me : Int) : Bool := decide (1 ≤ cs.length) && decide (cs.length ≤ 4) && decide (0 ≤ me) && decide (me ≤ 2) && cardsB cs
theorem checkB_yes {cs : List Int} {me : Int} (h1 : 1 ≤ cs.length) (h2 : cs.length ≤ 4) (h3 : 0 ≤ me) (h4 : me ≤ 2) (h5 : ∀ x ∈ cs, 1 ≤ x ∧ x ≤ 16) : checkB cs me = true := by
  simp only [checkB, cardsB, h1, h2, h3, h4, decide_true, Bool.true_and, List.all_eq_true, Bool.and_eq_true, decide_eq_true_eq]
  exact h5
theorem checkB_spec {cs : List Int} {me : Int} (h : checkB cs me = true) : 1 ≤ cs.length ∧ cs.length ≤ 4 ∧ 0 ≤ me ∧ me ≤ 2 ∧ ∀ x ∈ cs, 1 ≤ x ∧ x ≤ 16 := by
  simp only [checkB, cardsB, Bool.and_eq_true, decide_eq_true_eq, List.all_eq_true] at h
  exact ⟨h.1.1.1.1, h.1.1.1.2, h.1.1.2, h.1.2, h.2⟩
theorem checkB_no {cs : List Int} {me : Int} (h : ¬(1 ≤ cs.length ∧ cs.length ≤ 4 ∧ 0 ≤ me ∧ me ≤ 2)) : checkB cs me = false := by
  cases hc : checkB cs me with
  | false => rfl
  | true => have := checkB_spec hc; exact absurd ⟨this.1, this.2.1, this.2.2.1, this.2.2.2.1⟩ h
theorem checkB_no_at {cs : List Int} {me : Int} {k : Nat} {x : Int} (hx : cs[k]? = some x) (h : ¬(1 ≤ x ∧ x ≤ 16)) : checkB cs me = false := by
  cases hc : checkB cs me with
  | false => rfl
  | true => exact absurd ((checkB_spec hc).2.2.2.2 x (List.mem_of_getElem? hx)) h
theorem all_take {p : Int → Prop} {cs : List Int} {k : Nat} {x : Int} (h : ∀ y ∈ cs.take k, p y) (hx : cs[k]? = some x) (hp : p x) : ∀ y ∈ cs.take (k + 1), p y := by
  rw [take_snoc hx]
  intro y hy
  rcases List.mem_append.1 hy with hy | hy
  · exact h y hy
  · obtain rfl : y = x := by simpa using hy
    exact hp
/-- Each value is one of its dimension's. -/
def keysB : List Int → List Int → Bool
  | [], [] => true
  | c :: cs, v :: vs => decide (0 ≤ v) && decide (v < c) && keysB cs vs
  | _, _ => false
def rightB (cs : List Int) (me : Int) (r : Fact) : Bool := keysB cs r.key && decide ((r.m.length : Int) = me)
theorem keysB_len : ∀ {cs vs : List Int}, keysB cs vs = true → vs.length = cs.length
  | [], [], _ => rfl
  | c :: cs, v :: vs, h => by
    simp only [keysB, Bool.and_eq_true] at h
    simp [keysB_len h.2]
  | [], _ :: _, h => by simp [keysB] at h
  | _ :: _, [], h => by simp [keysB] at h
theorem keysB_at : ∀ {cs vs : List Int} {k : Nat} {c v : Int}, keysB cs vs = true → cs[k]? = some c → vs[k]? = some v → 0 ≤ v ∧ v < c
  | c :: cs, v :: vs, 0, c', v', h, hc, hv => by
    simp only [keysB, Bool.and_eq_true, decide_eq_true_eq] at h
    simp at hc hv
    subst hc hv
    exact h.1
  | c :: cs, v :: vs, k + 1, c', v', h, hc, hv => by
    simp only [keysB, Bool.and_eq_true] at h
    exact keysB_at h.2 (by simpa using hc) (by simpa using hv)
  | [], [], _, _, _, _, hc, _ => by simp at hc
  | [], _ :: _, _, _, _, h, _, _ => by simp [keysB] at h
  | _ :: _, [], _, _, _, h, _, _ => by simp [keysB] at h
theorem keysB_yes : ∀ {cs vs : List Int}, vs.length = cs.length → (∀ (k : Nat) (c v : Int), cs[k]? = some c → vs[k]? = some v → 0 ≤ v ∧ v < c) → keysB cs vs = true
  | [], [], _, _ => rfl
  | c :: cs, v :: vs, hl, h => by
    have h0 := h 0 c v rfl rfl
    simp only [keysB, Bool.and_eq_true, decide_eq_true_eq]
    exact ⟨h0, keysB_yes (by simpa using hl) fun k c v hc hv => h (k + 1) c v (by simpa using hc) (by simpa using hv)⟩
  | [], _ :: _, hl, _ => by simp at hl
  | _ :: _, [], hl, _ => by simp at hl
theorem keysB_no_at {cs vs : List Int} {k : Nat} {c v : Int} (hc : cs[k]? = some c) (hv : vs[k]? = some v) (h : ¬(0 ≤ v ∧ v < c)) : keysB cs vs = false := by
  cases hb : keysB cs vs with
  | false => rfl
  | true => exact absurd (keysB_at hb hc hv) h
theorem rightB_len {cs : List Int} {me : Int} {r : Fact} (h : ¬(r.key.length = cs.length ∧ (r.m.length : Int) = me)) : rightB cs me r = false := by
  cases hb : rightB cs me r with
  | false => rfl
  | true =>
    simp only [rightB, Bool.and_eq_true, decide_eq_true_eq] at hb
    exact absurd ⟨keysB_len hb.1, hb.2⟩ h
theorem rightB_no_at {cs : List Int} {me : Int} {r : Fact} {k : Nat} {c v : Int} (hc : cs[k]? = some c) (hv : r.key[k]? = some v) (h : ¬(0 ≤ v ∧ v < c)) : rightB cs me r = false := by
  simp [rightB, keysB_no_at hc hv h]
theorem rightB_yes {cs : List Int} {me : Int} {r : Fact} (h1 : r.key.length = cs.length) (h2 : (r.m.length : Int) = me) (h : ∀ k c v, k < r.key.length → cs[k]? = some c → r.key[k]? = some v → 0 ≤ v ∧ v < c) : rightB cs me r = true := by
  simp only [rightB, Bool.and_eq_true, decide_eq_true_eq]
  exact ⟨keysB_yes h1 fun k c v hc hv => h k c v (List.getElem?_eq_some_iff.1 hv).1 hc hv, h2⟩

def allRightB (cs : List Int) (me : Int) (l : List Fact) : Bool := checkB cs me && l.all (rightB cs me)
theorem allRightB_chk {cs : List Int} {me : Int} {l : List Fact} (h : checkB cs me = false) : allRightB cs me l = false := by simp [allRightB, h]
theorem allRightB_at {cs : List Int} {me : Int} {l : List Fact} {k : Nat} {r : Fact} (hr : l[k]? = some r) (h : rightB cs me r = false) : allRightB cs me l = false := by
  have : l.all (rightB cs me) = false := by
    rw [List.all_eq_false]
    exact ⟨r, List.mem_of_getElem? hr, by simp [h]⟩
  simp [allRightB, this]
theorem allRightB_yes {cs : List Int} {me : Int} {l : List Fact} (h : checkB cs me = true) (ha : ∀ r ∈ l, rightB cs me r = true) : allRightB cs me l = true := by
  simp only [allRightB, h, Bool.true_and, List.all_eq_true]
  exact ha
theorem allRightB_spec {cs : List Int} {me : Int} {l : List Fact} (h : allRightB cs me l = true) : checkB cs me = true ∧ ∀ r ∈ l, rightB cs me r = true := by
  simpa only [allRightB, Bool.and_eq_true, List.all_eq_true] using h
theorem mem_take_snoc {α : Type} {p : α → Prop} {cs : List α} {k : Nat} {x : α} (h : ∀ y ∈ cs.take k, p y) (hx : cs[k]? = some x) (hp : p x) : ∀ y ∈ cs.take (k + 1), p y := by
  rw [take_snoc hx]
  intro y hy
  rcases List.mem_append.1 hy with hy | hy
  · exact h y hy
  · obtain rfl : y = x := by simpa using hy
    exact hp

def soundsB (me : Nat) (l : List Fact) : Bool := (List.range me).all fun m => fitsB (col l m)
def soundB (cs : List Int) (me : Int) (l : List Fact) : Bool := allRightB cs me l && soundsB me.toNat l
theorem soundsB_no {me : Nat} {l : List Fact} {m : Nat} (hm : m < me) (h : fitsB (col l m) = false) : soundsB me l = false := by
  unfold soundsB
  rw [List.all_eq_false]
  exact ⟨m, List.mem_range.2 hm, by simp [h]⟩
theorem soundsB_yes {me : Nat} {l : List Fact} (h : ∀ m, m < me → fitsB (col l m) = true) : soundsB me l = true := by
  unfold soundsB
  rw [List.all_eq_true]
  exact fun m hm => h m (List.mem_range.1 hm)
theorem rightB_m {cs : List Int} {me : Int} {r : Fact} (h : rightB cs me r = true) : (r.m.length : Int) = me := by
  simp only [rightB, Bool.and_eq_true, decide_eq_true_eq] at h
  exact h.2
theorem rightB_key {cs : List Int} {me : Int} {r : Fact} (h : rightB cs me r = true) : keysB cs r.key = true := by
  simp only [rightB, Bool.and_eq_true] at h
  exact h.1

theorem lt_succ_all {p : Nat → Prop} {k : Nat} (h : ∀ j, j < k → p j) (hk : p k) : ∀ j, j < k + 1 → p j := fun j hj => by
  rcases Nat.lt_or_ge j k with h1 | h1
  · exact h j h1
  · obtain rfl : j = k := by omega
    exact hk

theorem flat_len (f : Int → List Int) (c : Nat) (h : ∀ x, (f x).length = c) (xs : List Int) : (xs.flatMap f).length = c * xs.length := by
  induction xs with
  | nil => simp
  | cons x t ih => rw [List.flatMap_cons, List.length_append, ih, h, List.length_cons]; rw [Nat.mul_add, Nat.mul_one, Nat.add_comm]


/-! ### Facts as bytes (P101) -/
/-- The bytes ahead of the rows. -/
def headB (cs : List Int) (me r : Int) : List Int := [67, 85, 66, 49] ++ be 1 cs.length ++ cs.flatMap (be 1) ++ be 1 me ++ be 2 r
def be64 (x : Int) : List Int := be 8 (x % 18446744073709551616)
def rowB (r : Fact) : List Int := r.key.flatMap (be 1) ++ r.m.flatMap be64
def encB (cs : List Int) (me : Int) (l : List Fact) : List Int := headB cs me l.length ++ l.flatMap rowB
theorem headB_len (cs : List Int) (me r : Int) : (headB cs me r).length = 8 + cs.length := by
  unfold headB
  rw [List.length_append, List.length_append, List.length_append, List.length_append, be_len, be_len, be_len, flat_len (be 1) 1 (by intro x; exact be_len _ _)]
  simp only [List.length_cons, List.length_nil]
  omega
theorem rowB_len (r : Fact) : (rowB r).length = r.key.length + 8 * r.m.length := by
  unfold rowB
  rw [List.length_append, flat_len (be 1) 1 (by intro x; exact be_len _ _), flat_len be64 8 (by intro x; exact be_len _ _), Nat.one_mul]
theorem rows_len {l : List Fact} {W : Nat} (h : ∀ r ∈ l, r.key.length + 8 * r.m.length = W) : (l.flatMap rowB).length = l.length * W := by
  induction l with
  | nil => simp
  | cons r t ih =>
    rw [List.flatMap_cons, List.length_append, rowB_len, ih fun r hr => h r (List.mem_cons_of_mem _ hr), h r List.mem_cons_self, List.length_cons, Nat.add_mul, Nat.one_mul, Nat.add_comm]

theorem keysB_small : ∀ {cs vs : List Int}, keysB cs vs = true → (∀ c ∈ cs, 1 ≤ c ∧ c ≤ 16) → ∀ x ∈ vs, 0 ≤ x ∧ x ≤ 15
  | [], [], _, _, x, hx => by simp at hx
  | c :: cs, v :: vs, h, hc, x, hx => by
    simp only [keysB, Bool.and_eq_true, decide_eq_true_eq] at h
    have h0 := hc c List.mem_cons_self
    rcases List.mem_cons.1 hx with rfl | hx
    · omega
    · exact keysB_small h.2 (fun c h => hc c (List.mem_cons_of_mem _ h)) x hx
  | [], _ :: _, h, _, _, _ => by simp [keysB] at h
  | _ :: _, [], h, _, _, _ => by simp [keysB] at h
theorem spl_full {bs ys : List Int} (h : ys.length = bs.length) : spl bs 0 ys = ys := by
  simp [spl, h]

/-- Bytes as a number, the highest first. -/
def beVal (ys : List Int) : Int := ys.foldl (fun a y => a * 256 + y) 0
theorem beVal_snoc (ys : List Int) (y : Int) : beVal (ys ++ [y]) = beVal ys * 256 + y := by simp [beVal, List.foldl_append]
theorem beVal_bd_aux : ∀ (n : Nat) (ys : List Int), ys.length = n → (∀ y ∈ ys, 0 ≤ y ∧ y ≤ 255) → 0 ≤ beVal ys ∧ beVal ys < 256 ^ n := by
  intro n
  induction n with
  | zero => intro ys hl _; rw [List.eq_nil_of_length_eq_zero hl]; simp [beVal]
  | succ n ih =>
    intro ys hl h
    rcases List.eq_nil_or_concat ys with rfl | ⟨l, y, rfl⟩
    · simp at hl
    · rw [List.concat_eq_append] at hl h ⊢
      rw [List.length_append, List.length_singleton] at hl
      have h1 := ih l (by omega) fun z hz => h z (List.mem_append_left _ hz)
      have h2 := h y (by simp)
      rw [beVal_snoc, Int.pow_succ]
      omega
theorem beVal_bd {ys : List Int} (h : ∀ y ∈ ys, 0 ≤ y ∧ y ≤ 255) : 0 ≤ beVal ys ∧ beVal ys < 256 ^ ys.length := beVal_bd_aux _ ys rfl h

theorem or64 (V x : Int) (h1 : 0 ≤ V) (h3 : 0 ≤ x) (h4 : x ≤ 255) : ∀ (k : Nat), k < 8 → V < 256 ^ k →
    bits .or .u64 (V * 2 ^ (8 * (8 - k))) (IntKind.u64.wrap (x * 2 ^ (8 * (7 - k)))) = (V * 256 + x) * 2 ^ (8 * (7 - k))
  | 0, _, h2 => by
    simp at h2 ⊢
    obtain rfl : V = 0 := by omega
    obtain ⟨x, rfl⟩ := Int.eq_ofNat_of_zero_le h3
    rw [IntKind.wrap_u64, show ((x : Int) * 72057594037927936 % 18446744073709551616) = ((x * 72057594037927936 : Nat) : Int) by omega]
    have := u64_or_nat 0 (x * 72057594037927936 : Nat) (by omega) (by omega)
    simp at this ⊢
    rw [this]
  | 1, _, h2 => by
    simp at h2 ⊢
    obtain ⟨x, rfl⟩ := Int.eq_ofNat_of_zero_le h3
    obtain ⟨V, rfl⟩ := Int.eq_ofNat_of_zero_le h1
    rw [IntKind.wrap_u64, show ((x : Int) * 281474976710656 % 18446744073709551616) = ((x * 281474976710656 : Nat) : Int) by omega, show (V : Int) * 72057594037927936 = ((V * 72057594037927936 : Nat) : Int) by omega, u64_or_nat _ _ (by omega) (by omega), nat_join 56 _ _ (by omega) (by omega)]
    omega
  | 2, _, h2 => by
    simp at h2 ⊢
    obtain ⟨x, rfl⟩ := Int.eq_ofNat_of_zero_le h3
    obtain ⟨V, rfl⟩ := Int.eq_ofNat_of_zero_le h1
    rw [IntKind.wrap_u64, show ((x : Int) * 1099511627776 % 18446744073709551616) = ((x * 1099511627776 : Nat) : Int) by omega, show (V : Int) * 281474976710656 = ((V * 281474976710656 : Nat) : Int) by omega, u64_or_nat _ _ (by omega) (by omega), nat_join 48 _ _ (by omega) (by omega)]
    omega
  | 3, _, h2 => by
    simp at h2 ⊢
    obtain ⟨x, rfl⟩ := Int.eq_ofNat_of_zero_le h3
    obtain ⟨V, rfl⟩ := Int.eq_ofNat_of_zero_le h1
    rw [IntKind.wrap_u64, show ((x : Int) * 4294967296 % 18446744073709551616) = ((x * 4294967296 : Nat) : Int) by omega, show (V : Int) * 1099511627776 = ((V * 1099511627776 : Nat) : Int) by omega, u64_or_nat _ _ (by omega) (by omega), nat_join 40 _ _ (by omega) (by omega)]
    omega
  | 4, _, h2 => by
    simp at h2 ⊢
    obtain ⟨x, rfl⟩ := Int.eq_ofNat_of_zero_le h3
    obtain ⟨V, rfl⟩ := Int.eq_ofNat_of_zero_le h1
    rw [IntKind.wrap_u64, show ((x : Int) * 16777216 % 18446744073709551616) = ((x * 16777216 : Nat) : Int) by omega, show (V : Int) * 4294967296 = ((V * 4294967296 : Nat) : Int) by omega, u64_or_nat _ _ (by omega) (by omega), nat_join 32 _ _ (by omega) (by omega)]
    omega
  | 5, _, h2 => by
    simp at h2 ⊢
    obtain ⟨x, rfl⟩ := Int.eq_ofNat_of_zero_le h3
    obtain ⟨V, rfl⟩ := Int.eq_ofNat_of_zero_le h1
    rw [IntKind.wrap_u64, show ((x : Int) * 65536 % 18446744073709551616) = ((x * 65536 : Nat) : Int) by omega, show (V : Int) * 16777216 = ((V * 16777216 : Nat) : Int) by omega, u64_or_nat _ _ (by omega) (by omega), nat_join 24 _ _ (by omega) (by omega)]
    omega
  | 6, _, h2 => by
    simp at h2 ⊢
    obtain ⟨x, rfl⟩ := Int.eq_ofNat_of_zero_le h3
    obtain ⟨V, rfl⟩ := Int.eq_ofNat_of_zero_le h1
    rw [IntKind.wrap_u64, show ((x : Int) * 256 % 18446744073709551616) = ((x * 256 : Nat) : Int) by omega, show (V : Int) * 65536 = ((V * 65536 : Nat) : Int) by omega, u64_or_nat _ _ (by omega) (by omega), nat_join 16 _ _ (by omega) (by omega)]
    omega
  | 7, _, h2 => by
    simp at h2 ⊢
    obtain ⟨x, rfl⟩ := Int.eq_ofNat_of_zero_le h3
    obtain ⟨V, rfl⟩ := Int.eq_ofNat_of_zero_le h1
    rw [IntKind.wrap_u64, show ((x : Int) % 18446744073709551616) = ((x : Nat) : Int) by omega, show (V : Int) * 256 = ((V * 256 : Nat) : Int) by omega, u64_or_nat _ _ (by omega) (by omega), nat_join 8 _ _ (by omega) (by omega)]
    omega
  | k + 8, h, _ => by omega
theorem or16 (V x : Int) (h1 : 0 ≤ V) (h3 : 0 ≤ x) (h4 : x ≤ 255) : ∀ (k : Nat), k < 2 → V < 256 ^ k →
    bits .or .u16 (V * 2 ^ (8 * (2 - k))) (IntKind.u16.wrap (x * 2 ^ (8 * (1 - k)))) = (V * 256 + x) * 2 ^ (8 * (1 - k))
  | 0, _, h2 => by
    simp at h2 ⊢
    obtain rfl : V = 0 := by omega
    obtain ⟨x, rfl⟩ := Int.eq_ofNat_of_zero_le h3
    rw [IntKind.wrap_u16, show ((x : Int) * 256 % 65536) = ((x * 256 : Nat) : Int) by omega]
    have := u16_or_nat 0 (x * 256 : Nat) (by omega) (by omega)
    simp at this ⊢
    rw [this]
  | 1, _, h2 => by
    simp at h2 ⊢
    obtain ⟨x, rfl⟩ := Int.eq_ofNat_of_zero_le h3
    obtain ⟨V, rfl⟩ := Int.eq_ofNat_of_zero_le h1
    rw [IntKind.wrap_u16, show ((x : Int) % 65536) = ((x : Nat) : Int) by omega, show (V : Int) * 256 = ((V * 256 : Nat) : Int) by omega, u16_or_nat _ _ (by omega) (by omega), nat_join 8 _ _ (by omega) (by omega)]
    omega
  | k + 2, h, _ => by omega
theorem or8 (V x : Int) (h1 : 0 ≤ V) (h3 : 0 ≤ x) (h4 : x ≤ 255) : ∀ (k : Nat), k < 1 → V < 256 ^ k →
    bits .or .u8 (V * 2 ^ (8 * (1 - k))) (IntKind.u8.wrap (x * 2 ^ (8 * (0 - k)))) = (V * 256 + x) * 2 ^ (8 * (0 - k))
  | 0, _, h2 => by
    simp at h2 ⊢
    obtain rfl : V = 0 := by omega
    obtain ⟨x, rfl⟩ := Int.eq_ofNat_of_zero_le h3
    rw [IntKind.wrap_u8, show ((x : Int) % 256) = ((x : Nat) : Int) by omega]
    have := u8_or_nat 0 (x : Nat) (by omega) (by omega)
    simp at this ⊢
    rw [this]
  | k + 1, h, _ => by omega
theorem beVal_take {xs : List Int} {k : Nat} {x : Int} (h : xs[k]? = some x) : beVal (xs.take (k + 1)) = beVal (xs.take k) * 256 + x := by
  rw [take_snoc h, beVal_snoc]
theorem beVal_take_bd {xs : List Int} (h : ∀ y ∈ xs, 0 ≤ y ∧ y ≤ 255) {k : Nat} (hk : k ≤ xs.length) : 0 ≤ beVal (xs.take k) ∧ beVal (xs.take k) < 256 ^ k := by
  have := beVal_bd (ys := xs.take k) fun y hy => h y (List.mem_of_mem_take hy)
  rwa [List.length_take, Nat.min_eq_left hk] at this

/-- cnt numbers of k bytes each, read off xs. -/
def chunks (f : Int → Int) (k cnt : Nat) (xs : List Int) : List Int := (List.range cnt).map fun i => f (beVal ((xs.drop (k * i)).take k))
theorem chunks_len (f : Int → Int) (k cnt : Nat) (xs : List Int) : (chunks f k cnt xs).length = cnt := by simp [chunks]
/-- The first i of them are read, the others are 0. -/
def chunked (f : Int → Int) (k cnt i : Nat) (xs : List Int) : List Int := chunks f k i xs ++ List.replicate (cnt - i) 0
theorem chunked_0 (f : Int → Int) (k cnt : Nat) (xs : List Int) : chunked f k cnt 0 xs = List.replicate cnt 0 := by simp [chunked, chunks]
theorem chunked_end (f : Int → Int) (k cnt : Nat) (xs : List Int) : chunked f k cnt cnt xs = chunks f k cnt xs := by simp [chunked]
theorem chunks_succ (f : Int → Int) (k i : Nat) (xs : List Int) : chunks f k (i + 1) xs = chunks f k i xs ++ [f (beVal ((xs.drop (k * i)).take k))] := by
  simp [chunks, List.range_succ]
theorem chunked_set {f : Int → Int} {k cnt i : Nat} {xs : List Int} (h : i < cnt) : (chunked f k cnt i xs).set i (f (beVal ((xs.drop (k * i)).take k))) = chunked f k cnt (i + 1) xs := by
  unfold chunked
  rw [List.set_append_right _ _ (by rw [chunks_len]; omega), chunks_len, Nat.sub_self, chunks_succ, show cnt - i = (cnt - (i + 1)) + 1 from by omega, List.replicate_succ, List.set_cons_zero, List.append_assoc]
  rfl
theorem chunked_at {f : Int → Int} {k cnt i : Nat} {xs : List Int} (h : i < cnt) : (chunked f k cnt i xs)[i]? = some 0 := by
  unfold chunked
  rw [List.getElem?_append_right (by rw [chunks_len]; omega), chunks_len, Nat.sub_self, show cnt - i = (cnt - (i + 1)) + 1 from by omega, List.replicate_succ]
  rfl

/-- The first twelve bytes, zeros behind them. -/
def pad (xs : List Int) : List Int := spl (List.replicate 12 0) 0 (xs.take 12)
theorem pad_len (xs : List Int) : (pad xs).length = 12 := by
  unfold pad
  rw [spl_len]
  · simp
  · simp; omega
theorem list12 {l : List Int} (h : l.length = 12) : ∃ a b c d e f g i j k m n : Int, l = [a, b, c, d, e, f, g, i, j, k, m, n] := by
  match l, h with
  | [a, b, c, d, e, f, g, i, j, k, m, n], _ => exact ⟨a, b, c, d, e, f, g, i, j, k, m, n, rfl⟩
theorem pad_ok {xs : List Int} (h : ∀ x ∈ xs, 0 ≤ x ∧ x ≤ 255) : ∀ x ∈ pad xs, 0 ≤ x ∧ x ≤ 255 := by
  intro x hx
  simp only [pad, spl, List.take_zero, List.nil_append, List.mem_append] at hx
  rcases hx with hx | hx
  · exact h x (List.mem_of_mem_take hx)
  · have := List.mem_of_mem_drop hx
    rw [List.mem_replicate] at this
    omega

/-! ### What stands ahead of the rows, read off bytes -/
def hDims (xs : List Int) : Nat := (beVal (((pad xs).drop 4).take 1)).toNat
def hCards (xs : List Int) : List Int := chunks id 1 (hDims xs) (((pad xs).drop 4).drop 1)
def hMeas (xs : List Int) : Int := beVal (((((pad xs).drop 4).drop 1).drop (hDims xs)).take 1)
def hRows (xs : List Int) : Int := beVal ((((((pad xs).drop 4).drop 1).drop (hDims xs)).drop 1).take 2)
def hMark (xs : List Int) : Bool := decide ((pad xs).take 4 = [67, 85, 66, 49])
def headOk (xs : List Int) : Bool := hMark xs && (decide (hDims xs ≤ 4) && (checkB (hCards xs) (hMeas xs) && decide (hRows xs ≤ 300)))
theorem beVal1 (x : Int) : beVal [x] = x := by simp [beVal]
theorem beVal2 (x y : Int) : beVal [x, y] = x * 256 + y := by simp [beVal]

end Go.Proofs.Ytmolfcccfekcpaa
