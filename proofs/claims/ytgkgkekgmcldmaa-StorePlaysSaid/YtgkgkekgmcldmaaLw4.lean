/- What the laws of files use: a store of the call's own in one word; the law's within, its known example. -/
import Derived.Test.YtgkgkekgmcldmaaSt10
import Derived.Lib.SlBytesConst
import Derived.Maps.AppendAt
namespace Go.Proofs.Ytgkgkekgmcldmaa
open Go.RowKit
/-- A slice of integers that came in: nil, or a row of cap numbers, the first len its elements. -/
def IsRow (k : IntKind) (w : World) (a : Option Addr) (len cap : Nat) (zs : List Int) : Prop :=
  (a = none ∧ len = 0 ∧ cap = 0 ∧ zs = []) ∨
  ∃ x, a = some x ∧ len ≤ cap ∧ cap ≤ maxLen ∧ zs.length = cap ∧ (∀ i, i < zs.length → w.cell? (x.add i) = some (.int k (zs.getD i 0))) ∧ ∀ n ∈ zs, (Lit.int k n).wf = true
theorem IsRow.nums {w : World} {a : Option Addr} {len cap : Nat} {zs : List Int} (h : IsRow .i64 w a len cap zs) : Nums .i64 w a len (zs.take len) ∧ len ≤ cap ∧ cap ≤ 9223372036854775807 := by
  rcases h with ⟨rfl, rfl, rfl, rfl⟩ | ⟨x, rfl, h1, h2, h3, h4, h5⟩
  · exact ⟨Nums.nil _ _ _, Nat.le_refl _, by omega⟩
  · refine ⟨⟨by rw [List.length_take, h3, Nat.min_eq_left h1], fun y hy => ?_, fun _ => ⟨x, rfl, fun j y hj => ?_⟩⟩, h1, by simpa [maxLen] using h2⟩
    · have := bounds_i64 (h5 y (List.mem_of_mem_take hy))
      exact this
    · rw [List.getElem?_take] at hj
      split at hj
      · have hjl : j < zs.length := (List.getElem?_eq_some_iff.1 hj).1
        rw [h4 j hjl, List.getD_eq_getElem?_getD, hj]
        rfl
      · cases hj
theorem IsRow.bytes {w : World} {a : Option Addr} {len cap : Nat} {zs : List Int} (h : IsRow .u8 w a len cap zs) : Nums .u8 w a len (zs.take len) ∧ len ≤ cap ∧ cap ≤ 9223372036854775807 := by
  rcases h with ⟨rfl, rfl, rfl, rfl⟩ | ⟨x, rfl, h1, h2, h3, h4, h5⟩
  · exact ⟨Nums.nil _ _ _, Nat.le_refl _, by omega⟩
  · refine ⟨⟨by rw [List.length_take, h3, Nat.min_eq_left h1], fun y hy => ?_, fun _ => ⟨x, rfl, fun j y hj => ?_⟩⟩, h1, by simpa [maxLen] using h2⟩
    · have := bounds_u8 (h5 y (List.mem_of_mem_take hy))
      exact this
    · rw [List.getElem?_take] at hj
      split at hj
      · have hjl : j < zs.length := (List.getElem?_eq_some_iff.1 hj).1
        rw [h4 j hjl, List.getD_eq_getElem?_getD, hj]
        rfl
      · cases hj
theorem tdiv_in {k c : Int} (h : inK .i64 k) (hc : 1 ≤ c) : inK .i64 (k.tdiv c) := by
  obtain ⟨h1, h2⟩ := h
  rcases Int.le_total 0 k with h0 | h0
  · have a := Int.tdiv_nonneg h0 (show 0 ≤ c by omega)
    have b := Int.tdiv_le_self c h0
    exact ⟨by omega, by omega⟩
  · have e : k.tdiv c = -((-k).tdiv c) := by rw [Int.neg_tdiv, Int.neg_neg]
    have a := Int.tdiv_nonneg (show 0 ≤ -k by omega) (show 0 ≤ c by omega)
    have b := Int.tdiv_le_self c (show 0 ≤ -k by omega)
    exact ⟨by omega, by omega⟩
set_option maxHeartbeats 400000 in
theorem wi4 (a n : Int) (w : World) (ha : inK .i64 a) (hn : 1 ≤ n) (hn2 : n ≤ 4611686018427387904) :
    Calls Try.prog 8 #[.int .i64 a, .int .i64 n] w fun e w' => e = .returned (.int .i64 (a % n)) ∧ w = w' := by
  obtain ⟨ha1, ha2⟩ := ha
  by_cases h : 0 ≤ a
  · have h1 := Int.emod_nonneg a (show n ≠ 0 by omega)
    go_enter Try.func8, Try.ntmps8
    go_wp2
    go_ret
    exact ⟨rfl, rfl⟩
  · have h1 := Int.emod_nonneg a (show n ≠ 0 by omega)
    have h2 := Int.emod_lt_of_pos a (show 0 < n by omega)
    have h3 := Int.tmod_eq_emod (a := a) (b := n)
    have h4 : a.tmod n = a % n ∨ a.tmod n = a % n - n := by
      rw [h3]
      split
      · simp
      · right; omega
    by_cases h5 : a.tmod n < 0
    · have e : a.tmod n + n = a % n := by omega
      have h6 : -n ≤ a.tmod n := by omega
      have E := Lib.hid e
      clear e h3 h4 h1 h2
      go_enter Try.func8, Try.ntmps8
      go_wp2
      go_ret
      exact ⟨ret_int E.out, rfl⟩
    · have e : a.tmod n = a % n := by omega
      have E := Lib.hid e
      clear e h3 h4 h1 h2
      go_enter Try.func8, Try.ntmps8
      go_wp2
      go_ret
      exact ⟨ret_int E.out, rfl⟩


/-- A store that the call itself made, from a on; M: what it may turn. -/
def S (a w : World) (p : Nat) (σ : St) (c : Nat) (M : Nat → Prop) : Prop := ∃ A, StoreAt w p σ c M A ∧ (∀ k, M k → a.heap.size ≤ k) ∧ Below a.heap.size a w
section
variable {a w w' : World} {p c : Nat} {σ : St} {M : Nat → Prop}
theorem S.bel (h : S a w p σ c M) : Below a.heap.size a w := by obtain ⟨A, _, _, h⟩ := h; exact h
theorem S.ok (h : S a w p σ c M) : σ.ok c := by obtain ⟨A, h, _⟩ := h; exact h.ok
theorem S.ml (h : S a w p σ c M) : ∀ k, M k → k < w.heap.size := by obtain ⟨A, h, _⟩ := h; exact h.ml
theorem S.below (h : S a w p σ c M) (hb : Below w.heap.size w w') : S a w' p σ c M := by
  obtain ⟨A, h1, h2, h3⟩ := h
  exact ⟨A, h1.below hb, h2, h3.trans (hb.mono h3.size)⟩
theorem S.alloc (h : S a w p σ c M) (o : Obj) : S a (w.alloc o) p σ c M := h.below ((Below.refl _ _).alloc (Nat.le_refl _) o)
theorem S.drewN (h : S a w p σ c M) (n : Nat) : S a (w.drewN n) p σ c M := h.below ⟨rfl, rfl, rfl, Nat.le_refl _, fun _ _ => rfl⟩
theorem S.more {c' : Nat} (h : S a w p σ c M) (hc : c ≤ c') : S a w p σ c' M := by
  obtain ⟨A, h1, h2, h3⟩ := h
  exact ⟨A, h1.mono (fun _ h => h) (fun _ h => h) h1.ml h1.al hc, h2, h3⟩
theorem S.post {v : Value} {e : Ending} {A : Nat → Prop} {c' : Nat} {σ' : St} (h1 : ∀ k, M k → a.heap.size ≤ k) (h2 : Below a.heap.size a w) (hp : OpPost p σ' c' M A v w e w') : e = .returned v ∧ S a w' p σ' c' (Grw M w w') ∧ Tch M w w' := by
  obtain ⟨rfl, h3, h4⟩ := hp
  refine ⟨rfl, ⟨_, h3, fun k hk => ?_, h2.trans (h4.below h1 h2.size)⟩, h4⟩
  rcases hk with hk | hk
  · exact h1 k hk
  · have := h2.size; omega
theorem new_s (hb : Below a.heap.size a w) (k : Int) (hk : 0 ≤ k ∧ k ≤ 1000000) :
    Calls Try.prog 9 #[.int .i64 k] w fun e w' => e = .returned (.pointer (some ⟨w.heap.size, 0, none⟩)) ∧ S a w' w.heap.size (St.new k) 0 (fun j => j = w.heap.size) ∧ Below w.heap.size w w' :=
  (sNew_any k w).mono fun _ _ ⟨he, hw⟩ => ⟨he, hw ▸ ⟨_, StoreAt.new w k hk, fun j hj => by subst hj; exact hb.size, hb.alloc hb.size _⟩, hw ▸ (Below.refl _ _).alloc (Nat.le_refl _) _⟩
theorem used_s (h : S a w p σ c M) : Calls Try.prog 24 #[.pointer (some ⟨p, 0, none⟩)] w fun e w' => e = .returned (.int .i64 (usedF σ.fs : Int)) ∧ w = w' := by
  obtain ⟨A, h1, _⟩ := h
  exact sUsed_any h1
theorem read_s (h : S a w p σ c M) (n : Nm) (hn : n.length ≤ 1000000) (is : Bool) (xs : List Int) (e1 : (fnd σ.fs n).isSome = is) (e2 : (valF (fnd σ.fs n)).b = xs) :
    Calls Try.prog 13 #[.pointer (some ⟨p, 0, none⟩), .string (str n)] w fun e w' => ∃ P cp, e = .returned (.tuple #[.slice P xs.length cp, .bool is]) ∧ xs.length ≤ cp ∧ w'.ownsRow w.heap.size 5 1 (.slice P xs.length cp) xs.length (byts xs) ∧ Below w.heap.size w w' := by
  obtain ⟨A, h1, _⟩ := h
  subst e1 e2
  refine (sRead_any n h1 hn).mono ?_
  rintro e w' ⟨v, he, ho, hb⟩
  obtain ⟨P, cp, rfl, h2, _, _⟩ := own_form ho
  exact ⟨P, cp, he, h2, ho, hb⟩
theorem names_s (h : S a w p σ c M) (hc : c ≤ 1000000) :
    Calls Try.prog 23 #[.pointer (some ⟨p, 0, none⟩)] w fun e w' => ∃ P cp, e = .returned (.slice P σ.fs.length cp) ∧ σ.fs.length ≤ cp ∧ w'.ownsRow w.heap.size 9 1 (.slice P σ.fs.length cp) σ.fs.length (nmCells σ.fs) ∧ Below w.heap.size w w' := by
  obtain ⟨A, h1, _⟩ := h
  refine (sNames_any h1 hc).mono ?_
  rintro e w' ⟨v, he, ho, hb⟩
  obtain ⟨P, cp, rfl, h2, _, _⟩ := own_form ho
  exact ⟨P, cp, he, h2, ho, hb⟩
theorem trace_s (h : S a w p σ c M) (hc : c ≤ 1000000) :
    Calls Try.prog 22 #[.pointer (some ⟨p, 0, none⟩)] w fun e w' => ∃ P cp, e = .returned (.slice P σ.ops.length cp) ∧ σ.ops.length ≤ cp ∧ w'.ownsRow w.heap.size 48 2 (.slice P σ.ops.length cp) σ.ops.length (opCells σ.ops) ∧ Below w.heap.size w w' := by
  obtain ⟨A, h1, _⟩ := h
  refine (sTrace_any h1 hc).mono ?_
  rintro e w' ⟨v, he, ho, hb⟩
  obtain ⟨P, cp, rfl, h2, _, _⟩ := own_form ho
  exact ⟨P, cp, he, h2, ho, hb⟩
theorem write_s (h : S a w p σ c M) (n : Nm) (P : Option Addr) (m cap : Nat) (xs : List Int) (r : Int) (σ' : St) (hn : n.length ≤ 1000000) (hc : c ≤ 999999) (hx : Nums .u8 w P m xs) (hm : m ≤ 1000) (hmc : m ≤ cap) (hcap : cap ≤ 9223372036854775807) (e : σ.write n xs = (r, σ')) :
    Calls Try.prog 17 #[.pointer (some ⟨p, 0, none⟩), .string (str n), .slice P m cap] w fun e w' => e = .returned (.int .i64 r) ∧ S a w' p σ' (c + 1) (Grw M w w') ∧ Tch M w w' := by
  obtain ⟨A, h1, h2, h3⟩ := h
  have := sWrite_any n P m cap xs h1 hn hc hx hm hmc (by simpa [maxLen] using hcap)
  rw [e] at this
  exact this.mono fun _ _ hp => S.post h2 h3 hp
theorem sync_s (h : S a w p σ c M) (n : Nm) (r : Int) (σ' : St) (hn : n.length ≤ 1000000) (hc : c ≤ 999999) (e : σ.sync n = (r, σ')) :
    Calls Try.prog 15 #[.pointer (some ⟨p, 0, none⟩), .string (str n)] w fun e w' => e = .returned (.int .i64 r) ∧ S a w' p σ' (c + 1) (Grw M w w') ∧ Tch M w w' := by
  obtain ⟨A, h1, h2, h3⟩ := h
  have := sSync_any n h1 hn hc
  rw [e] at this
  exact this.mono fun _ _ hp => S.post h2 h3 hp
theorem remove_s (h : S a w p σ c M) (n : Nm) (r : Int) (σ' : St) (hn : n.length ≤ 1000000) (hc : c ≤ 999999) (e : σ.remove n = (r, σ')) :
    Calls Try.prog 28 #[.pointer (some ⟨p, 0, none⟩), .string (str n)] w fun e w' => e = .returned (.int .i64 r) ∧ S a w' p σ' (c + 1) (Grw M w w') ∧ Tch M w w' := by
  obtain ⟨A, h1, h2, h3⟩ := h
  have := sRemove_any n h1 hn hc
  rw [e] at this
  exact this.mono fun _ _ hp => S.post h2 h3 hp
theorem publish_s (h : S a w p σ c M) (b n : Nm) (r : Int) (σ' : St) (hn : n.length ≤ 1000000) (hc : c ≤ 999999) (hb : b.length ≤ 1000000) (e : σ.publish b n = (r, σ')) :
    Calls Try.prog 26 #[.pointer (some ⟨p, 0, none⟩), .string (str b), .string (str n)] w fun e w' => e = .returned (.int .i64 r) ∧ S a w' p σ' (c + 1) (Grw M w w') ∧ Tch M w w' := by
  obtain ⟨A, h1, h2, h3⟩ := h
  have := sPublish_any b n h1 hb hn hc
  rw [e] at this
  exact this.mono fun _ _ hp => S.post h2 h3 hp
theorem crash_s (h : S a w p σ c M) (Pk : Option Addr) (mk ck : Nat) (kp : List Int) (hc : c ≤ 999999) (hk : Nums .i64 w Pk mk kp) (hmk : mk ≤ ck) (hck : mk ≤ 9223372036854775807) :
    Calls Try.prog 19 #[.pointer (some ⟨p, 0, none⟩), .slice Pk mk ck] w fun e w' => e = .returned (.pointer (some ⟨w.heap.size, 0, none⟩)) ∧ S a w' w.heap.size (σ.crash kp) c (Grw (fun _ => False) w w') ∧ Below w.heap.size w w' := by
  obtain ⟨A, h1, h2, h3⟩ := h
  refine (sCrash_any Pk mk ck kp h1 hc hk hmk hck).mono ?_
  rintro e w' ⟨he, h4, h5⟩
  refine ⟨he, ⟨_, h4, fun k hk => ?_, h3.trans (h5.mono h3.size)⟩, h5⟩
  rcases hk with hk | hk
  · exact hk.elim
  · have := h3.size; omega
/-- A row that came behind the store stays. -/
theorem own_tch {B s n : Nat} {e : TypeId} {v : Value} {xs : List Value} (h : w.ownsRow B e s v n xs) (ht : Tch M w w') (hM : ∀ k, M k → k < B) : w'.ownsRow B e s v n xs :=
  own_stay h fun k hk => ht.block k (h.lt k hk).2 fun hm => by have := hM k hm; have := (h.lt k hk).1; omega
theorem own_bel {B s n : Nat} {e : TypeId} {v : Value} {xs : List Value} (h : w.ownsRow B e s v n xs) (hb : Below w.heap.size w w') : w'.ownsRow B e s v n xs := own_below h hb (Nat.le_refl _)
/-- What came in reads as before. -/
theorem Nums.tch {kd : IntKind} {P : Option Addr} {n : Nat} {xs : List Int} (h : Nums kd a P n xs) (hb : Below a.heap.size a w) : Nums kd w P n xs := h.keep (Keeps.of_below hb)
end
/-- A row of bytes of the call's own, as the walks read it. -/
theorem own_u8 {w : World} {B n c : Nat} {P : Option Addr} {xs : List Int} (h : w.ownsRow B 5 1 (.slice P n c) n (byts xs)) (e : xs.length = n) (hk : ∀ x ∈ xs, 0 ≤ x ∧ x ≤ 255) : Nums .u8 w P n xs := by
  subst e
  obtain ⟨P', c', e, _, _, hn⟩ := FB.form (A := fun _ => True) ⟨own_mono h (Nat.zero_le _), fun _ _ => trivial⟩ hk
  injection e with e1 _ _
  subst e1
  exact hn
theorem cv_str {w : World} {P : Option Addr} {n c : Nat} {xs : List Int} (h : Nums .u8 w P n xs) : (convert 23 9 (.slice P n c)).run Try.prog w = .ok (.string (strOf xs)) w :=
  conv_str _ _ _ Try.underlying23 Try.underlying5 Try.underlying9 _ _ _ _ _ h
/-- A row just laid. -/
theorem nums_new (w : World) (xs : List Int) (T : TypeId) (q : Nat × Nat) (hk : ∀ x ∈ xs, 0 ≤ x ∧ x ≤ 255) : Nums .u8 (w.alloc (.cells (byts xs).toArray T q)) (some ⟨w.heap.size, 0, none⟩) xs.length xs :=
  ⟨rfl, hk, fun _ => ⟨_, rfl, fun j x hx => by rw [add0, cell_of_row _ w.heap.size j (byts xs).toArray T q (heap_alloc_new w _)]; simpa [byts] using hx⟩⟩
/-- n zero bytes, made anew. -/
theorem make_at (w : World) (n : Nat) (hn : n ≤ 1000) : (Instr.makeSlice 23 (.int .i64 (n : Int)) (.int .i64 (n : Int))).run Try.prog w = .ok (.slice (some ⟨w.heap.size, 0, none⟩) n n) (w.alloc (.cells (madeCells #[.int .u8 0] n) 5)) := by
  obtain ⟨i0, hi, hz0, hz1, hz2⟩ := info_parts infoByte
  exact make_bytes _ _ i0 Try.underlying23 hi hz0 hz1 hz2 n (by omega) w
theorem nums_made (w : World) (n : Nat) : Nums .u8 (w.alloc (.cells (madeCells #[.int .u8 0] n) 5)) (some ⟨w.heap.size, 0, none⟩) n (List.replicate n 0) := by
  have h := Arr.nums (kd := .u8) (T := 5) (w := w.alloc (.cells (madeCells #[.int .u8 0] n) 5)) (g := w.heap.size) (xs := List.replicate n 0) (Buf.made w n) (fun x hx => by rw [List.eq_of_mem_replicate hx]; simp only [inK]; omega)
  rwa [List.length_replicate] at h
set_option maxRecDepth 100000 in
set_option maxHeartbeats 4000000 in
theorem known4 (w : World) : Calls Try.prog 7 #[] w fun e w' => e = .returned (.bool true) ∧ Below w.heap.size w w' := by
  go_enter Try.func7, Try.ntmps7
  go_wp2_with fail
  refine (new_s (Below.refl _ w) 10 (by omega)).mono ?_
  rintro e w1 ⟨rfl, h1, -⟩
  have H1 := Lib.hid h1
  clear h1
  generalize w.heap.size = p at H1 ⊢
  go_wp2_with fail
  refine (names_s H1.out (by omega)).mono ?_
  rintro e w2 ⟨P2, c2, rfl, -, -, hb⟩
  have H2 := Lib.hid (H1.out.below hb)
  clear hb H1
  have kc : (convert 23 23 (.slice (some ⟨w2.heap.size, 0, none⟩) 3 3)).run Try.prog (w2.alloc (.cells #[.int .u8 120, .int .u8 121, .int .u8 122] 5)) =
      .ok (.slice (some ⟨w2.heap.size, 0, none⟩) 3 3) (w2.alloc (.cells #[.int .u8 120, .int .u8 121, .int .u8 122] 5 (3, 4))) :=
    Go.Lib.run_convert_bytes_const (P := Try.prog) w2 23 5 #[.int .u8 120, .int .u8 121, .int .u8 122] 3 3 Try.underlying23 Try.underlying5
  have Hn := Lib.hid (nums_new w2 [120, 121, 122] 5 (3, 4) (by simp))
  go_wp2_with fail
  refine (write_s (H2.out.alloc _) [97] _ 3 3 [120, 121, 122] 0 ⟨10, [([97], ⟨[120, 121, 122], 0, []⟩)], [(1, [97])]⟩ (by simp) (by omega) Hn.out (by omega) (by omega) (by omega) rfl).mono ?_
  rintro e w3 ⟨rfl, h3, -⟩
  have H3 := Lib.hid h3
  clear h3 kc Hn H2
  go_wp2_with fail
  refine (read_s H3.out [97] (by simp) true [120, 121, 122] rfl rfl).mono ?_
  rintro e w4 ⟨P4, c4, rfl, -, hv, hb⟩
  have H4 := Lib.hid (H3.out.below hb)
  have Hv := Lib.hid hv
  have Hml := Lib.hid H3.out.ml
  clear H3 hv hb
  go_wp2_with fail
  have km : ∀ w, (Instr.makeSlice 23 (.int .i64 8) (.int .i64 8)).run Try.prog w = .ok (.slice (some ⟨w.heap.size, 0, none⟩) 8 8) (w.alloc (.cells (madeCells #[.int .u8 0] 8) 5)) := fun w => make_at w 8 (by omega)
  have Hz := Lib.hid (nums_made w4 8)
  have H5 := Lib.hid (H4.out.alloc (.cells (madeCells #[.int .u8 0] 8) 5))
  go_wp2_with fail
  rw [km]
  go_wp2_with fail
  refine (write_s H5.out [98] _ 8 8 (List.replicate 8 0) 4 ⟨10, [([97], ⟨[120, 121, 122], 0, []⟩)], [(1, [97])]⟩ (by simp) (by omega) Hz.out (by omega) (by omega) (by omega) rfl).mono ?_
  rintro e w6 ⟨rfl, h6, t6⟩
  have hs : (convert 23 9 (.slice P4 3 c4)).run Try.prog w6 = .ok (.string ⟨#[120, 121, 122]⟩) w6 := cv_str (own_u8 (own_tch (own_bel Hv.out ((Below.refl _ w4).alloc (Nat.le_refl _) _)) t6 Hml.out) rfl (by simp))
  have H6 := Lib.hid h6
  clear h6 t6 km Hz H5 Hv Hml
  go_wp2_with fail
  refine (used_s H6.out).mono ?_
  rintro e w7 ⟨rfl, rfl⟩
  go_wp2
  go_ret
  exact ⟨rfl, H6.out.bel⟩
end Go.Proofs.Ytgkgkekgmcldmaa
