/- The walk of the law StoreOwn: the Go text returns true, and writes nothing that was there. -/
import Derived.Test.YtiebmilmeimpiaaLw4
namespace Go.Proofs.Ytiebmilmeimpiaa
open Go.RowKit
theorem copy_bs (w : World) (P : Option Addr) (m cap : Nat) (xs : List Int) (hx : Nums .u8 w P m xs) (hm : m ≤ 1000000) (hP : P = none → cap = 0) :
    ∃ Pa ca W', (Builtin.append_ #[23, 23] 23 #[.slice (some ⟨w.heap.size, 0, none⟩) 0 0, .slice P m cap]).run Try.prog (w.alloc (.cells #[] 5)) = .ok (.slice Pa m ca) W' ∧ W'.ownsRow w.heap.size 5 1 (.slice Pa m ca) m (byts xs) ∧ Below w.heap.size w W' := by
  obtain ⟨i0, hi, hz0, hz1, hz2⟩ := info_parts infoByte
  have hlit : (w.alloc (.cells #[] 5)).ownsRow w.heap.size 5 1 (.slice (some ⟨w.heap.size, 0, none⟩) 0 0) 0 [] := World.ownsRow_made w #[] 0 (Nat.le_refl _) (by simp [maxLen]) (by simp)
  have hb : Below w.heap.size w (w.alloc (.cells #[] 5)) := (Below.refl _ _).alloc (Nat.le_refl _) _
  cases P with
  | none =>
    obtain rfl : cap = 0 := hP rfl
    have h0 : m = 0 := by
      rcases Nat.eq_zero_or_pos m with h | h
      · exact h
      · obtain ⟨_, e, _⟩ := hx.2.2 h; cases e
    subst h0
    have e : xs = [] := List.eq_nil_of_length_eq_zero hx.1
    subst e
    exact ⟨_, _, _, run_append_owned_none (P := Try.prog) (w := w.alloc (.cells #[] 5)) w.heap.size 23 23 5 i0 1 Try.underlying23 hi _ 0 [] hlit, hlit, hb⟩
  | some ad =>
    obtain ⟨_, W', hrun, ho, hgr, _⟩ := run_append_own_at (P := Try.prog) (w.alloc (.cells #[] 5)) w.heap.size 23 23 5 i0 _ 1 1 Try.underlying23 hi hz0 hz1 hz2 rfl (by omega) _ 0 [] hlit ad m cap (byts xs) (by rw [byts_len, hx.1]; omega)
      (fun j u hu => (Keeps.of_below hb) _ _ (hx.cells_u8 rfl j u hu)) (byts_one _) (by simp [maxLen]; omega) (by omega) hb.size
    rw [Nat.zero_add, List.nil_append] at ho
    obtain ⟨Pa, ca, hv, _⟩ := own_form ho
    subst hv
    exact ⟨Pa, ca, W', hrun, ho, hb.grown hgr hb.size fun j e => (hlit.lt j e).1⟩

theorem ow1 (xs : List Int) (h : xs.length ≤ 100) : (St.new 300).write [97] xs = (0, ⟨300, [([97], ⟨xs, 0, []⟩)], [(1, [97])]⟩) := by
  simp [St.write, St.new, nameOk, usedF, fnd, lenF, St.deed, wrF, putF]; omega
/-- Blocks that are none of those from lo on, below hi. -/
def Av (lo hi : Nat) (M : Nat → Prop) : Prop := ∀ k, M k → k < lo ∨ hi ≤ k
theorem Av.grw {lo hi : Nat} {M : Nat → Prop} {w w' : World} (h : Av lo hi M) (hw : hi ≤ w.heap.size) : Av lo hi (Grw M w w') := fun k hk => by
  rcases hk with hk | hk
  · exact h k hk
  · have := hk.1; omega
theorem Av.lt {lo hi : Nat} {M : Nat → Prop} (h : ∀ k, M k → k < lo) : Av lo hi M := fun k hk => .inl (h k hk)
def Btw (lo hi : Nat) : Nat → Prop := fun k => lo ≤ k ∧ k < hi
theorem StoreAt.btw {lo hi : Nat} {w w' : World} {p c : Nat} {σ : St} {M A : Nat → Prop} (h : StoreAt w p σ c M A) (ht : Tch (Btw lo hi) w w') (hM : Av lo hi M) (hA : Av lo hi A) : StoreAt w' p σ c M A :=
  h.tch ht fun k hk => ⟨fun hm => by have := hM k hm; have := hk.1; have := hk.2; omega, fun ha => by have := hA k ha; have := hk.1; have := hk.2; omega⟩
theorem own_btw {lo hi B s n : Nat} {w w' : World} {e : TypeId} {v : Value} {xs : List Value} (h : w.ownsRow B e s v n xs) (ht : Tch (Btw lo hi) w w') (hB : hi ≤ B) : w'.ownsRow B e s v n xs :=
  own_stay h fun k hk => ht.block k (h.lt k hk).2 fun hm => by have := hm.2; have := (h.lt k hk).1; omega
theorem own_at {w : World} {B s n c : Nat} {P : Option Addr} {e : TypeId} {xs : List Value} (h : w.ownsRow B e s (.slice P n c) n xs) (hn : 0 < n) : ∃ g, P = some ⟨g, 0, none⟩ ∧ ∀ j u, xs[j]? = some u → w.cell? ⟨g, j, none⟩ = some u := by
  obtain ⟨P', c', ev, _, _, hc⟩ := own_form h
  injection ev with e1 _ _
  subst e1
  obtain ⟨g, e, _, hc⟩ := hc hn
  exact ⟨g, e, hc⟩
theorem own_nil {w : World} {B s n c : Nat} {P : Option Addr} {e : TypeId} {xs : List Value} (h : w.ownsRow B e s (.slice P n c) n xs) (hP : P = none) : c = 0 := by
  subst hP
  rcases own_form0 h with ⟨e, _⟩ | ⟨g, c', e, _⟩
  · injection e
  · injection e with e1 _ _; cases e1
theorem own_cap {w : World} {B s n c : Nat} {P : Option Addr} {e : TypeId} {xs : List Value} (h : w.ownsRow B e s (.slice P n c) n xs) : n ≤ c ∧ c ≤ maxLen := by
  obtain ⟨P', c', ev, h1, h2, hc⟩ := own_form h
  injection ev with _ _ e3
  subst e3
  exact ⟨h1, h2⟩
theorem own_lo {lo hi B s n : Nat} {w w' : World} {e : TypeId} {v : Value} {xs : List Value} (h : w.ownsRow B e s v n xs) (ht : Tch (Btw lo hi) w w') (hB : ∀ k, v.ownBlock = some k → k < lo) : w'.ownsRow B e s v n xs :=
  own_stay h fun k hk => ht.block k (h.lt k hk).2 fun hm => by have := hm.1; have := hB k hk; omega
theorem nums_1 (w : World) (x : Int) (T : TypeId) (h : inK .i64 x) : Nums .i64 (w.alloc (.cells #[.int .i64 x] T)) (some ⟨w.heap.size, 0, none⟩) 1 [x] :=
  ⟨rfl, by simpa using h, fun _ => ⟨_, rfl, fun j y hy => by rw [add0, cell_of_row _ w.heap.size j #[.int .i64 x] T (0, 0) (heap_alloc_new w _)]; cases j <;> simp at hy ⊢; exact hy⟩⟩
/-- A store as the walk carries it: where its blocks are not. -/
structure Hs (w : World) (p : Nat) (σ : St) (c : Nat) (lo hi : Nat) : Prop where
  ex : ∃ M A, StoreAt w p σ c M A ∧ Av lo hi M ∧ Av lo hi A
theorem Hs.btw {lo hi : Nat} {w w' : World} {p c : Nat} {σ : St} (h : Hs w p σ c lo hi) (ht : Tch (Btw lo hi) w w') : Hs w' p σ c lo hi := by
  obtain ⟨M, A, h1, h2, h3⟩ := h.ex
  exact ⟨M, A, h1.btw ht h2 h3, h2, h3⟩
theorem Hs.below {lo hi : Nat} {w w' : World} {p c : Nat} {σ : St} (h : Hs w p σ c lo hi) (hb : Below w.heap.size w w') : Hs w' p σ c lo hi := by
  obtain ⟨M, A, h1, h2, h3⟩ := h.ex
  exact ⟨M, A, h1.below hb, h2, h3⟩
/-- What comes later is none of its blocks. -/
theorem Hs.late {lo hi lo' hi' : Nat} {w : World} {p c : Nat} {σ : St} (h : Hs w p σ c lo hi) (hl : w.heap.size ≤ lo') : Hs w p σ c lo' hi' := by
  obtain ⟨M, A, h1, _, _⟩ := h.ex
  exact ⟨M, A, h1, Av.lt fun k hk => by have := h1.ml k hk; omega, Av.lt fun k hk => by have := h1.al k hk; omega⟩
theorem Hs.read {lo hi : Nat} {w : World} {p c : Nat} {σ : St} (h : Hs w p σ c lo hi) (n : Nm) (hn : n.length ≤ 1000000) (xs : List Int) (e2 : (valF (fnd σ.fs n)).b = xs) :
    Calls Try.prog 20 #[.pointer (some ⟨p, 0, none⟩), .string (str n)] w fun e w' => ∃ P cp is, e = .returned (.tuple #[.slice P xs.length cp, .bool is]) ∧ w'.ownsRow w.heap.size 5 1 (.slice P xs.length cp) xs.length (byts xs) ∧ Below w.heap.size w w' := by
  obtain ⟨M, A, h1, _⟩ := h.ex
  subst e2
  refine (sRead_any n h1 hn).mono ?_
  rintro e w' ⟨v, he, ho, hb⟩
  obtain ⟨P, cp, rfl, h2, _, _⟩ := own_form ho
  exact ⟨P, cp, _, he, ho, hb⟩
theorem wrap_u8 (z : Int) : 0 ≤ z % 256 ∧ z % 256 ≤ 255 := by omega
set_option maxRecDepth 100000 in
set_option maxHeartbeats 8000000 in
theorem storeOwn_walk (a0 : Option Addr) (len0 cap0 : Nat) (z0 : List Int) (a1 : Int) (w : World) (w0 : IsRow .u8 w a0 len0 cap0 z0) (h1 : inK .u8 a1) :
    Calls Try.prog 9 #[.slice a0 len0 cap0, .int .u8 a1] w fun e w' => e = .returned (.bool true) ∧ Below w.heap.size w w' := by
  have hnil : a0 = none → cap0 = 0 := fun e => by
    rcases w0 with ⟨_, _, h2, _⟩ | ⟨x, h, _⟩
    · exact h2
    · rw [e] at h; cases h
  have Hnil := Lib.hid hnil
  obtain ⟨hx, hlc, hcap⟩ := w0.bytes
  generalize z0.take len0 = xs at hx
  have hxl := hx.1
  have Hxk := Lib.hid hx.2.1
  have Hx := Lib.hid hx
  clear w0 hx hnil
  obtain ⟨b1, b2⟩ := h1
  by_cases hbig : len0 ≤ 100
  case neg =>
    go_enter Try.func9, Try.ntmps9
    go_wp2_with fail
    refine (known4 w).mono ?_
    rintro e w1 ⟨rfl, hb1⟩
    have Hb1 := Lib.hid hb1
    clear hb1
    go_wp2
    go_ret
    exact ⟨rfl, Hb1.out⟩
  case pos =>
  go_enter Try.func9, Try.ntmps9
  go_wp2_with fail
  refine (known4 w).mono ?_
  rintro e w1 ⟨rfl, hb1⟩
  have Hb1 := Lib.hid hb1
  clear hb1
  go_wp2_with fail
  refine (sNew_any 300 w1).mono ?_
  rintro e w2 ⟨rfl, hw2⟩
  have hs2 := StoreAt.new w1 300 (by omega)
  rw [← hw2] at hs2
  have hb2 : Below w1.heap.size w1 w2 := hw2 ▸ (Below.refl _ _).alloc (Nat.le_refl _) _
  have hz2 : w2.heap.size = w1.heap.size + 1 := by rw [hw2]; simp
  have Hs2 := Lib.hid hs2
  have Hb2 := Lib.hid hb2
  have Hz2 := Lib.hid hz2
  clear hw2 hs2 hb2 hz2
  go_wp2_with fail
  refine (sNew_any 300 w2).mono ?_
  rintro e w3 ⟨rfl, hw3⟩
  have ho3 := StoreAt.new w2 300 (by omega)
  rw [← hw3] at ho3
  have hb3 : Below w2.heap.size w2 w3 := hw3 ▸ (Below.refl _ _).alloc (Nat.le_refl _) _
  have hz3 : w3.heap.size = w2.heap.size + 1 := by rw [hw3]; simp
  obtain ⟨p1, hp1⟩ : ∃ p, p = w1.heap.size := ⟨_, rfl⟩
  obtain ⟨p2, hp2⟩ : ∃ p, p = w2.heap.size := ⟨_, rfl⟩
  have hs3 := Hs2.out.below hb3
  have Hb3 := Lib.hid (show Below w.heap.size w w3 from (Hb1.out.trans (Hb2.out.mono Hb1.out.size)).trans (hb3.mono (by have := Hb1.out.size; have := Hb2.out.size; omega)))
  have Hp := Lib.hid (show p2 = p1 + 1 ∧ w3.heap.size = p1 + 2 ∧ w.heap.size ≤ p1 from ⟨by have := Hz2.out; omega, by have := Hz2.out; omega, by have := Hb1.out.size; omega⟩)
  rw [← hp1] at hs3 ⊢
  rw [← hp2] at ho3 ⊢
  have Ho3 := Lib.hid ho3
  have Hs3 := Lib.hid hs3
  clear hw3 ho3 hb3 hz3 hs3 Hs2 Hb2 Hz2 Hb1 hp1 hp2
  obtain ⟨Pc, cc, w4, hrun, hc4, hb4⟩ := copy_bs w3 a0 len0 cap0 xs (Hx.out.tch Hb3.out) (by omega) Hnil.out
  have Hrun := Lib.hid hrun
  have Hc4 := Lib.hid hc4
  have Hb4 := Lib.hid hb4
  clear hrun hc4 hb4
  go_wp2_with (at_builtin; have _t := Hrun; refine wpList_append_eq rfl (.tmp 29) (.tmp 30) 23 rfl _ _ _ _ rfl rfl Hrun.out ?_; clear _t Hrun)
  have hpost := sWrite_any [97] Pc len0 cc xs (Hs3.out.below Hb4.out) (by simp) (by omega) (own_u8 Hc4.out hxl Hxk.out) (by omega) (own_cap Hc4.out).1 (own_cap Hc4.out).2
  rw [ow1 xs (by omega)] at hpost
  refine hpost.mono ?_
  clear hpost
  rintro e w5 ⟨rfl, hs5, ht5⟩
  have ho5 := (Ho3.out.below Hb4.out).tch ht5 (fun k hk => ⟨fun h => by have := Hp.out; omega, fun h => h⟩)
  have hc5 := own_tch Hc4.out ht5 (fun k hk => by have := Hp.out; omega)
  have hg5 : ∀ k, (Value.slice Pc len0 cc).ownBlock = some k → w3.heap.size ≤ k ∧ k < w4.heap.size := fun k hk => Hc4.out.lt k hk
  have hS5 : Hs w5 p1 ⟨300, [([97], ⟨xs, 0, []⟩)], [(1, [97])]⟩ 1 w3.heap.size w4.heap.size := ⟨_, _, hs5, Av.grw (fun k hk => .inl (by have := Hp.out; omega)) (Nat.le_refl _), Av.grw (fun k hk => hk.elim) (Nat.le_refl _)⟩
  have hp2s : ∀ k, Grw (fun j => j = p1) w4 w5 k → k ≠ p2 := fun k hk e => by
    have := Hp.out; have := Hb4.out.size
    rcases hk with hk | hk
    · omega
    · have := hk.1; omega
  have hp2a : ∀ k, Grw (fun _ => False) w4 w5 k → k ≠ p2 := fun k hk e => by
    have := Hp.out; have := Hb4.out.size
    rcases hk with hk | hk
    · exact hk
    · have := hk.1; omega
  have Hs5 := Lib.hid hs5
  have Ho5 := Lib.hid ho5
  have Hc5 := Lib.hid hc5
  have Hg5 := Lib.hid hg5
  have Hq5 := Lib.hid (And.intro hp2s hp2a)
  have Hz5 := Lib.hid (show w3.heap.size ≤ w4.heap.size ∧ w4.heap.size ≤ w5.heap.size from ⟨Hb4.out.size, ht5.size⟩)
  have Hb5 := Lib.hid (show Below w.heap.size w w5 from (Hb3.out.trans (Hb4.out.mono Hb3.out.size)).trans (ht5.below (fun k hk => by have := Hp.out; omega) (by have := Hb3.out.size; have := Hb4.out.size; omega)))
  clear hs5 ho5 hc5 hg5 ht5 hS5 hp2s hp2a Hs3 Ho3 Hc4 Hb4 Hb3
  have kc : (convert 23 23 (.slice (some ⟨w5.heap.size, 0, none⟩) 5 5)).run Try.prog (w5.alloc (.cells #[.int .u8 111, .int .u8 116, .int .u8 104, .int .u8 101, .int .u8 114] 5)) =
      .ok (.slice (some ⟨w5.heap.size, 0, none⟩) 5 5) (w5.alloc (.cells #[.int .u8 111, .int .u8 116, .int .u8 104, .int .u8 101, .int .u8 114] 5 (5, 6))) :=
    Go.Lib.run_convert_bytes_const (P := Try.prog) w5 23 5 #[.int .u8 111, .int .u8 116, .int .u8 104, .int .u8 101, .int .u8 114] 5 5 Try.underlying23 Try.underlying5
  have Hn := Lib.hid (nums_new w5 [111, 116, 104, 101, 114] 5 (5, 6) (by simp))
  go_wp2_with fail
  have hb' : Below w5.heap.size w5 (w5.alloc (.cells (byts [111, 116, 104, 101, 114]).toArray 5 (5, 6))) := (Below.refl _ _).alloc (Nat.le_refl _) _
  have hpost := sWrite_any [97] _ 5 5 [111, 116, 104, 101, 114] (Ho5.out.below hb') (by simp) (by omega) Hn.out (by omega) (by omega) (by simp [maxLen])
  refine hpost.mono ?_
  clear hpost
  rintro e w6 ⟨rfl, ho6, ht6⟩
  have hs6 := (Hs5.out.below hb').tch ht6 (fun k hk => ⟨fun h => Hq5.out.1 k h hk, fun h => Hq5.out.2 k h hk⟩)
  have hc6 := own_tch (own_bel Hc5.out hb') ht6 (fun k hk => by have := Hp.out; omega)
  have hz' := hb'.size
  have hS6 : Hs w6 p1 ⟨300, [([97], ⟨xs, 0, []⟩)], [(1, [97])]⟩ 1 w3.heap.size w4.heap.size := ⟨_, _, hs6, Av.grw (fun k hk => .inl (by have := Hp.out; omega)) (Nat.le_refl _), Av.grw (fun k hk => hk.elim) (Nat.le_refl _)⟩
  have hO6 : Hs w6 p2 ⟨300, [([97], ⟨[111, 116, 104, 101, 114], 0, []⟩)], [(1, [97])]⟩ 1 w3.heap.size w4.heap.size := ⟨_, _, ho6, Av.grw (fun k hk => .inl (by have := Hp.out; omega)) (by have := Hz5.out; omega), Av.grw (fun k hk => hk.elim) (by have := Hz5.out; omega)⟩
  have HS6 := Lib.hid hS6
  have HO6 := Lib.hid hO6
  have Hc6 := Lib.hid hc6
  have Hz6 := Lib.hid (show w3.heap.size ≤ w4.heap.size ∧ w4.heap.size ≤ w6.heap.size from ⟨Hz5.out.1, by have := ht6.size; have := Hz5.out.2; omega⟩)
  have Hb6 := Lib.hid (show Below w.heap.size w w6 from (Hb5.out.trans (hb'.mono Hb5.out.size)).trans (ht6.below (fun k hk => by have := Hp.out; omega) (by have := Hb5.out.size; omega)))
  clear hs6 ho6 ht6 hc6 hS6 hO6 hb' hz' kc Hn Hs5 Ho5 Hc5 Hq5 Hz5 Hb5
  go_wp2_with fail
  go_loopw [8] (fun i wr => ∃ k : Nat, k ≤ len0 ∧ i = .int .i64 k ∧ ∃ ys, ys.length = len0 ∧ (∀ y ∈ ys, 0 ≤ y ∧ y ≤ 255) ∧ wr.ownsRow w3.heap.size 5 1 (.slice Pc len0 cc) len0 (byts ys) ∧ Tch (Btw w3.heap.size w4.heap.size) w6 wr) (fun i _ => len0 - (intOf i).toNat)
  case atStart => exact ⟨0, by omega, rfl, xs, hxl, Hxk.out, Hc6.out, Tch.refl _ _⟩
  case round =>
    rename World => wk
    obtain ⟨k, hk, rfl, ys, hyl, hyb, ho, hon⟩ := hrel
    have Ho := Lib.hid ho
    have Hon := Lib.hid hon
    have Hyl := Lib.hid hyl
    have Hyb2 := Lib.hid hyb
    clear ho hon hyl hyb
    by_cases hlt : k < len0
    · obtain ⟨y, hy⟩ : ∃ y, ys[k]? = some y := ⟨_, List.getElem?_eq_getElem (by rw [Hyl.out]; exact hlt)⟩
      obtain ⟨hy1, hy2⟩ := Hyb2.out y (List.mem_of_getElem? hy)
      obtain ⟨g, rfl, hcs⟩ := own_at Ho.out (by omega)
      have hcell : wk.cell? ⟨g, k, none⟩ = some (.int .u8 y) := hcs k _ (by simp [byts, hy])
      have hfr := World.ownsRow.frozenAt Ho.out k
      have hk0 : (0 : Int) ≤ (k : Int) := by omega
      have hk1 : (k : Int) < (len0 : Int) := by omega
      have hg := Hg5.out g rfl
      have hfin : ∃ ys', ys'.length = len0 ∧ (∀ y ∈ ys', 0 ≤ y ∧ y ≤ 255) ∧ (wk.setCell ⟨g, k, none⟩ (.int .u8 ((y + a1) % 256))).ownsRow w3.heap.size 5 1 (.slice (some ⟨g, 0, none⟩) len0 cc) len0 (byts ys') ∧ Tch (Btw w3.heap.size w4.heap.size) w6 (wk.setCell ⟨g, k, none⟩ (.int .u8 ((y + a1) % 256))) := by
        refine ⟨ys.set k ((y + a1) % 256), by rw [List.length_set]; exact Hyl.out, fun z hz => ?_, ?_, Hon.out.same (Tch.setCell (M := Btw w3.heap.size w4.heap.size) hg wk k _)⟩
        · rcases List.mem_or_eq_of_mem_set hz with hz | rfl
          · exact Hyb2.out z hz
          · omega
        · have := (Ho.out.stored k (.int .u8 ((y + a1) % 256))).1
          simpa [byts, List.map_set] using this
      have Fin := Lib.hid hfin
      clear hy hfin hcs hg
      go_wp2
      exact ⟨⟨k + 1, by omega, by go_num, Fin.out⟩, by simp [intOf]; omega⟩
    · obtain rfl : len0 = k := by omega
      have hS7 := HS6.out.btw Hon.out
      have hO7 := HO6.out.btw Hon.out
      have Hb7 := Lib.hid (show Below w.heap.size w wk from Hb6.out.trans (Hon.out.below (fun k hk => by have := hk.1; have := Hp.out; omega) (by have := Hb6.out.size; omega)))
      have HS7 := Lib.hid (hS7.late (lo' := wk.heap.size) (hi' := wk.heap.size) (Nat.le_refl _))
      have HO7 := Lib.hid (hO7.late (lo' := wk.heap.size) (hi' := wk.heap.size) (Nat.le_refl _))
      clear hS7 hO7 HS6 HO6 Hc6 Hz6 Hb6 Hg5 Ho Hon Hyl Hyb2 hlt hk
      go_wp2_with fail
      refine (HS7.out.read [97] (by simp) xs rfl).mono ?_
      rintro e w8 ⟨Px, cx, is8, rfl, hx8, hb8⟩
      rw [hxl] at hx8 ⊢
      have hG8 : ∀ k, (Value.slice Px len0 cx).ownBlock = some k → wk.heap.size ≤ k ∧ k < w8.heap.size := fun k hk => hx8.lt k hk
      have Hg8 := Lib.hid hG8
      obtain ⟨Py, cy, w9, hrun, hy9, hb9⟩ := copy_bs w8 Px len0 cx xs (own_u8 hx8 hxl Hxk.out) (by omega) (own_nil hx8)
      have Hx9 := Lib.hid (own_bel hx8 hb9)
      have Hy9 := Lib.hid hy9
      have Hs9 := Lib.hid ((((HS7.out.late (lo' := wk.heap.size) (hi' := w8.heap.size) (Nat.le_refl _)).below hb8).below hb9))
      have Ho9 := Lib.hid ((((HO7.out.late (lo' := wk.heap.size) (hi' := w8.heap.size) (Nat.le_refl _)).below hb8).below hb9))
      have Hz9 := Lib.hid (show wk.heap.size ≤ w8.heap.size ∧ w8.heap.size ≤ w9.heap.size from ⟨hb8.size, hb9.size⟩)
      have Hb9 := Lib.hid (show Below w.heap.size w w9 from (Hb7.out.trans (hb8.mono Hb7.out.size)).trans (hb9.mono (by have := Hb7.out.size; have := hb8.size; omega)))
      have Hzw := Lib.hid Hb7.out.size
      have Hrun := Lib.hid hrun
      clear hx8 hG8 hrun hy9 hb8 hb9 HS7 HO7 Hb7
      go_wp2_with (at_builtin; have _t := Hrun; refine wpList_append_eq rfl (.tmp 57) (.tmp 58) 23 rfl _ _ _ _ rfl rfl Hrun.out ?_; clear _t Hrun)
      go_wp2_with fail
      go_loopw [12] (fun i wr => ∃ k : Nat, k ≤ len0 ∧ i = .int .i64 k ∧ ∃ ys, ys.length = len0 ∧ (∀ y ∈ ys, 0 ≤ y ∧ y ≤ 255) ∧ wr.ownsRow wk.heap.size 5 1 (.slice Px len0 cx) len0 (byts ys) ∧ Tch (Btw wk.heap.size w8.heap.size) w9 wr) (fun i _ => len0 - (intOf i).toNat)
      case atStart => exact ⟨0, by omega, rfl, xs, hxl, Hxk.out, Hx9.out, Tch.refl _ _⟩
      case round =>
        rename World => wl
        obtain ⟨k, hk, rfl, ys, hyl, hyb, ho, hon⟩ := hrel
        have Ho := Lib.hid ho
        have Hon := Lib.hid hon
        have Hyl := Lib.hid hyl
        have Hyb2 := Lib.hid hyb
        clear ho hon hyl hyb
        by_cases hlt : k < len0
        · obtain ⟨y, hy⟩ : ∃ y, ys[k]? = some y := ⟨_, List.getElem?_eq_getElem (by rw [Hyl.out]; exact hlt)⟩
          obtain ⟨hy1, hy2⟩ := Hyb2.out y (List.mem_of_getElem? hy)
          obtain ⟨g, rfl, hcs⟩ := own_at Ho.out (by omega)
          have hcell : wl.cell? ⟨g, k, none⟩ = some (.int .u8 y) := hcs k _ (by simp [byts, hy])
          have hfr := World.ownsRow.frozenAt Ho.out k
          have hk0 : (0 : Int) ≤ (k : Int) := by omega
          have hk1 : (k : Int) < (len0 : Int) := by omega
          have hg := Hg8.out g rfl
          have hfin : ∃ ys', ys'.length = len0 ∧ (∀ y ∈ ys', 0 ≤ y ∧ y ≤ 255) ∧ (wl.setCell ⟨g, k, none⟩ (.int .u8 ((y + a1) % 256))).ownsRow wk.heap.size 5 1 (.slice (some ⟨g, 0, none⟩) len0 cx) len0 (byts ys') ∧ Tch (Btw wk.heap.size w8.heap.size) w9 (wl.setCell ⟨g, k, none⟩ (.int .u8 ((y + a1) % 256))) := by
            refine ⟨ys.set k ((y + a1) % 256), by rw [List.length_set]; exact Hyl.out, fun z hz => ?_, ?_, Hon.out.same (Tch.setCell (M := Btw wk.heap.size w8.heap.size) hg wl k _)⟩
            · rcases List.mem_or_eq_of_mem_set hz with hz | rfl
              · exact Hyb2.out z hz
              · omega
            · have := (Ho.out.stored k (.int .u8 ((y + a1) % 256))).1
              simpa [byts, List.map_set] using this
          have Fin := Lib.hid hfin
          clear hy hfin hcs hg
          go_wp2
          exact ⟨⟨k + 1, by omega, by go_num, Fin.out⟩, by simp [intOf]; omega⟩
        · obtain rfl : len0 = k := by omega
          have hS := Hs9.out.btw Hon.out
          have hO := Ho9.out.btw Hon.out
          have hyl : wl.ownsRow w8.heap.size 5 1 (.slice Py len0 cy) len0 (byts xs) := own_btw Hy9.out Hon.out (Nat.le_refl _)
          have hzl := Hon.out.size
          have Hbl := Lib.hid (show Below w.heap.size w wl from Hb9.out.trans (Hon.out.below (fun k hk => by have := hk.1; have := Hzw.out; omega) (by have := Hb9.out.size; omega)))
          have hbA : Below wl.heap.size wl (wl.alloc (.cells #[.int .i64 1] 3)) := (Below.refl _ _).alloc (Nat.le_refl _) _
          have Hn1 := Lib.hid (nums_1 wl 1 3 (by simp only [inK]; omega))
          have hyA := own_bel hyl hbA
          have hSA := hS.below hbA
          have hOA := hO.below hbA
          have HyA := Lib.hid hyA
          have HSA := Lib.hid hSA
          have HOA := Lib.hid hOA
          have HbA := Lib.hid (show Below w.heap.size w (wl.alloc (.cells #[.int .i64 1] 3)) from Hbl.out.trans (hbA.mono Hbl.out.size))
          clear hS hO hyl hzl hbA hyA hSA hOA Hbl Hs9 Ho9 Hx9 Hy9 Hz9 Hb9 Hg8 Hzw Ho Hon Hyl Hyb2 hlt hk
          go_wp2_with fail
          obtain ⟨M, A, hst, hMA⟩ := HSA.out.ex
          have hpost := sCrash_any _ 1 1 [1] hst (by omega) Hn1.out (by omega) (by omega)
          clear hMA hst
          refine hpost.mono ?_
          clear hpost
          rintro e w11 ⟨rfl, ht11, hb11⟩
          have hs11 := (HSA.out.late (lo' := (wl.alloc (.cells #[.int .i64 1] 3)).heap.size) (hi' := w11.heap.size) (Nat.le_refl _)).below hb11
          have ho11 := (HOA.out.late (lo' := (wl.alloc (.cells #[.int .i64 1] 3)).heap.size) (hi' := w11.heap.size) (Nat.le_refl _)).below hb11
          have hy11 := own_bel HyA.out hb11
          have hyl : ∀ k, (Value.slice Py len0 cy).ownBlock = some k → k < (wl.alloc (.cells #[.int .i64 1] 3)).heap.size := fun k hk => (HyA.out.lt k hk).2
          have hb11' : Below w.heap.size w w11 := HbA.out.trans (hb11.mono HbA.out.size)
          have hzA := HbA.out.size
          have hz11 := hb11.size
          have hM : ∀ k, Grw (fun _ => False) (wl.alloc (.cells #[.int .i64 1] 3)) w11 k → Btw (wl.alloc (.cells #[.int .i64 1] 3)).heap.size w11.heap.size k := fun k hk => by
            rcases hk with hk | hk
            · exact hk.elim
            · exact hk
          generalize Grw (fun _ => False) (wl.alloc (.cells #[.int .i64 1] 3)) w11 = M11 at hM ht11
          generalize (wl.alloc (.cells #[.int .i64 1] 3)).heap.size = q at hM ht11 hs11 ho11 hyl hzA hz11 ⊢
          have Hs11 := Lib.hid hs11
          have Ho11 := Lib.hid ho11
          have Hy11 := Lib.hid hy11
          have Hyl := Lib.hid hyl
          have Hb11 := Lib.hid hb11'
          have Ht11 := Lib.hid ht11
          have HM := Lib.hid hM
          have Hz11 := Lib.hid (And.intro hzA hz11)
          clear hs11 ho11 hy11 hyl hb11 hb11' ht11 hM hzA hz11 HSA HOA HyA HbA Hn1
          go_wp2_with fail
          have hpost := sWrite_any [97] none 0 0 [] Ht11.out (by simp) (by omega) (Nums.nil _ _ _) (by omega) (by omega) (by simp [maxLen])
          refine hpost.mono ?_
          clear hpost
          rintro e w12 ⟨rfl, -, ht12⟩
          have ht := ht12.mono fun k _ hk => HM.out k hk
          have hs12 := Hs11.out.btw ht
          have ho12 := Ho11.out.btw ht
          have hy12 := own_lo Hy11.out ht Hyl.out
          have Hb12 := Lib.hid (show Below w.heap.size w w12 from Hb11.out.trans (ht.below (fun k hk => by have := hk.1; have := Hz11.out; omega) (by have := Hz11.out; omega)))
          have Hs12 := Lib.hid hs12
          have Ho12 := Lib.hid ho12
          have Hy12 := Lib.hid hy12
          clear hs12 ho12 hy12 ht ht12 Hs11 Ho11 Hy11 Hyl Hb11 Ht11 HM Hz11
          go_wp2_with fail
          refine (Hs12.out.read [97] (by simp) xs rfl).mono ?_
          rintro e w13 ⟨Pz, cz, is13, rfl, hz13, hb13⟩
          rw [hxl] at hz13 ⊢
          have k1 : (convert 23 9 (.slice Py len0 cy)).run Try.prog w13 = .ok (.string (strOf xs)) w13 := cv_str (own_u8 (own_bel Hy12.out hb13) hxl Hxk.out)
          have k2 : (convert 23 9 (.slice Pz len0 cz)).run Try.prog w13 = .ok (.string (strOf xs)) w13 := cv_str (own_u8 hz13 hxl Hxk.out)
          have hb14 : Below w.heap.size w w13 := Hb12.out.trans (hb13.mono Hb12.out.size)
          have k3 : (convert 23 9 (.slice a0 len0 cap0)).run Try.prog w13 = .ok (.string (strOf xs)) w13 := cv_str (Hx.out.tch hb14)
          have Ho13 := Lib.hid (Ho12.out.below hb13)
          have Hb13 := Lib.hid hb14
          clear hz13 hb13 hb14 Hs12 Ho12 Hy12 Hb12
          go_wp2_with fail
          obtain ⟨M2, A2, hso, -⟩ := Ho13.out.ex
          refine (sNames_any hso (by omega)).mono ?_
          clear hso
          rintro e w14 ⟨v, rfl, hv, hb⟩
          obtain ⟨Pn, cn, rfl, _, _, _⟩ := own_form hv
          have Hb14 := Lib.hid (show Below w.heap.size w w14 from Hb13.out.trans (hb.mono Hb13.out.size))
          clear hv hb Ho13
          go_wp2
          go_ret
          exact ⟨rfl, Hb14.out⟩
end Go.Proofs.Ytiebmilmeimpiaa
