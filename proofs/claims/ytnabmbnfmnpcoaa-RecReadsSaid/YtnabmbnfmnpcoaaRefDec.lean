/- The walk of the document's own Decode (reference), ahead of its rows. -/
import Derived.Test.YtnabmbnfmnpcoaaRefHead
import Derived.Test.YtnabmbnfmnpcoaaLaw
namespace Go.Proofs.Ytnabmbnfmnpcoaa
open Go.RowKit
def zeroDec : Value := .tuple #[.agg #[.slice none 0 0, .int .i64 0], .slice none 0 0, .int .i64 1]
/-- Two stores of the zero schema into the result's own block, and what is read there then. -/
theorem zero_end {t : TypeId} {w w1 : World} (hb : Below w.heap.size w w1) {u v : Value} (hbx : Box2 t w1 w.heap.size u v) :
    Box2 t ((w1.setCell ⟨w.heap.size, 0, none⟩ (.slice none 0 0)).setCell ⟨w.heap.size, 1, none⟩ (.int .i64 0)) w.heap.size (.slice none 0 0) (.int .i64 0) ∧
      Below w.heap.size w ((w1.setCell ⟨w.heap.size, 0, none⟩ (.slice none 0 0)).setCell ⟨w.heap.size, 1, none⟩ (.int .i64 0)) :=
  ⟨(hbx.set0 _).set1 _, below_setCell (below_setCell hb (Nat.le_refl _) 0 _) (Nat.le_refl _) 1 _⟩
set_option maxRecDepth 100000 in
set_option maxHeartbeats 8000000 in
theorem rDecode_ahead (A : Option Addr) (n c : Nat) (xs : List Int) (w : World) (hx : Nums .u8 w A n xs) (hc : n ≤ c) (hcm : c ≤ 9223372036854775807) (h : ahead xs = false) :
    Calls Try.prog 16 #[.slice A n c] w fun e w' => e = .returned zeroDec ∧ Below w.heap.size w w' := by
  have hb0 : Below w.heap.size w (w.alloc (.cells #[.slice none 0 0, .int .i64 0] 24)) := (Below.refl w.heap.size w).alloc (Nat.le_refl _) _
  have hbox := Box2.new w 24 (.slice none 0 0) (.int .i64 0)
  have HC := Lib.hid (head_no A n c xs _ (hx.keep (Keeps.of_below hb0)) hc hcm h)
  have Hb0 := Lib.hid hb0
  have Hbox := Lib.hid hbox
  clear hb0 hbox
  go_enter Try.func16, Try.ntmps16
  go_wp2_with fail
  refine HC.out.mono ?_
  rintro e w1 ⟨rfl, hb1⟩
  have hbx := Hbox.out.below hb1 (by simp)
  have hB1 := Hb0.out.trans (hb1.mono (by simp))
  obtain ⟨S, hS⟩ : ∃ S, S = w1.heap.size := ⟨_, rfl⟩
  have hne : w.heap.size ≠ w1.heap.size := by have := hbx.lt; omega
  have hbx2 : Box2 24 (w1.alloc (.cells #[.slice none 0 0, .int .i64 0] 24)) w.heap.size (.slice none 0 0) (.int .i64 0) := hbx.alloc _
  have hB2 : Below w.heap.size w (w1.alloc (.cells #[.slice none 0 0, .int .i64 0] 24)) := hB1.alloc hB1.size _
  have c0 := hbx2.cell0
  have c1 := hbx2.cell1
  have f0 := hbx2.frozen 0
  have f1 := hbx2.frozen 1
  have HE := Lib.hid (zero_end hB2 hbx2)
  clear hbx hB1 hb1 hbx2 hB2
  simp only [zeroHead]
  go_wp2
  have hend := HE.out
  generalize (World.setCell _ _ _).setCell _ _ = W at hend ⊢
  exact bodyPost_ret (v := zeroDec) (by simp [results, Try.results16, zeroDec, go_sem, hend.1.cell0, hend.1.cell1]) rfl ⟨rfl, hend.2⟩
theorem hMeas_ge {xs : List Int} (h : Bytes xs) : 0 ≤ hMeas xs ∧ hMeas xs ≤ 255 := hMeas_bd h
theorem hRows_ge {xs : List Int} (h : Bytes xs) : 0 ≤ hRows xs ∧ hRows xs ≤ 65535 := hRows_bd h
set_option maxRecDepth 100000 in
set_option maxHeartbeats 8000000 in
theorem rDecode_bad (ad : Addr) (n c : Nat) (xs : List Int) (w : World) (hx : Nums .u8 w (some ad) n xs) (hc : n ≤ c) (hcm : c ≤ 9223372036854775807) (h : ahead xs = true) (hno : headOk xs = false) :
    Calls Try.prog 16 #[.slice (some ad) n c] w fun e w' => e = .returned zeroDec ∧ Below w.heap.size w w' := by
  have hb0 : Below w.heap.size w (w.alloc (.cells #[.slice none 0 0, .int .i64 0] 24)) := (Below.refl w.heap.size w).alloc (Nat.le_refl _) _
  have hbox := Box2.new w 24 (.slice none 0 0) (.int .i64 0)
  have HC := Lib.hid (head_yes ad n c xs _ (hx.keep (Keeps.of_below hb0)) hc hcm h)
  have Hb0 := Lib.hid hb0
  have Hbox := Lib.hid hbox
  rw [headOk_ahead h] at hno
  clear hb0 hbox
  go_enter Try.func16, Try.ntmps16
  go_wp2_with fail
  refine HC.out.mono ?_
  rintro e w1 ⟨A, cc, Ar, rfl, hnc, htl, hb1, hfar⟩
  have hbx := Hbox.out.below hb1 (by simp)
  have hB1 := Hb0.out.trans (hb1.mono (by simp))
  have hne : w.heap.size ≠ w1.heap.size := by have := hbx.lt; omega
  have hbx2 : Box2 24 (w1.alloc (.cells #[.slice A (hDims xs) cc, .int .i64 (hMeas xs)] 24)) w.heap.size (.slice none 0 0) (.int .i64 0) := hbx.alloc _
  have hB2 : Below w.heap.size w (w1.alloc (.cells #[.slice A (hDims xs) cc, .int .i64 (hMeas xs)] 24)) := hB1.alloc hB1.size _
  have c0 := hbx2.cell0
  have c1 := hbx2.cell1
  have f0 := hbx2.frozen 0
  have f1 := hbx2.frozen 1
  have HE := Lib.hid (zero_end hB2 hbx2)
  clear hbx hB1 hb1 hbx2 hB2 hnc htl hfar
  cases hck : checkB (hCards xs) (hMeas xs) with
  | false =>
    clear hno
    go_wp2
    have hend := HE.out
    generalize (World.setCell _ _ _).setCell _ _ = W at hend ⊢
    exact bodyPost_ret (v := zeroDec) (by simp [results, Try.results16, zeroDec, go_sem, hend.1.cell0, hend.1.cell1]) rfl ⟨rfl, hend.2⟩
  | true =>
    rw [hck, Bool.true_and] at hno
    have hgt : (300 : Int) < hRows xs := by simpa using hno
    clear hno
    go_wp2
    have hend := HE.out
    generalize (World.setCell _ _ _).setCell _ _ = W at hend ⊢
    exact bodyPost_ret (v := zeroDec) (by simp [results, Try.results16, zeroDec, go_sem, hend.1.cell0, hend.1.cell1]) rfl ⟨rfl, hend.2⟩
/-- What the document's own Decode leaves. -/
def RDecPost (xs : List Int) (w : World) (e : Ending) (w' : World) : Prop :=
  Below w.heap.size w w' ∧ ((decOk xs = false ∧ e = .returned zeroDec) ∨
    (decOk xs = true ∧ ∃ A cc rv B, e = .returned (.tuple #[.agg #[.slice A (hDims xs) cc, .int .i64 (hMeas xs)], rv, .int .i64 0]) ∧ Nums .i64 w' A (hDims xs) (hCards xs) ∧ RowsW w' B B rv (dRows xs)))
theorem key_at {xs : List Int} {d n N q e : Nat} {w : World} {Ar : Addr} (h : Nums .u8 w (some Ar) N (xs.drop n)) (he : e < d) (hq : q + d ≤ N) :
    ∃ y, (chunks id 1 d (xs.drop (n + q)))[e]? = some y ∧ 0 ≤ y ∧ y ≤ 255 ∧ w.cell? (Ar.add (q + e)) = some (.int .u8 y) := by
  obtain ⟨a, y, e1, hy, ⟨hy1, hy2⟩, hyc⟩ := h.at_ (k := q + e) (by omega)
  injection e1 with e1
  subst e1
  refine ⟨y, ?_, hy1, hy2, hyc⟩
  simp only [chunks, List.getElem?_map, List.getElem?_range he, Option.map_some, id_eq]
  rw [one_at (i := 1 * e) (x := y)]
  rw [← hy, List.getElem?_drop, List.getElem?_drop]
  congr 1
  omega
theorem Nums.only {kd : IntKind} {w w' : World} {A : Option Addr} {n g : Nat} {xs : List Int} (h : Nums kd w A n xs) (ho : Only g w w') (hf : ∀ a : Addr, A = some a → a.block ≠ g) : Nums kd w' A n xs := by
  refine ⟨h.1, h.2.1, fun hn => ?_⟩
  obtain ⟨a, ha, hc⟩ := h.2.2 hn
  exact ⟨a, ha, fun j y hj => Only.cell ho (hc j y hj) (by rw [block_of_add]; exact hf a ha)⟩
theorem wrapN (a : Nat) (h : a ≤ 9223372036854775807) {x : Int} (e : x = (a : Int)) : IntKind.i64.wrap x = (a : Int) := by
  subst e; exact IntWalk.i64_in _ (by omega)
set_option maxRecDepth 100000 in
set_option maxHeartbeats 8000000 in
theorem rDecode_rest (ad : Addr) (n c : Nat) (xs : List Int) (w : World) (hx : Nums .u8 w (some ad) n xs) (hc : n ≤ c) (hcm : c ≤ 9223372036854775807) (h : ahead xs = true) (hyes : headOk xs = true) :
    Calls Try.prog 16 #[.slice (some ad) n c] w (RDecPost xs w) := by
  have hb0 : Below w.heap.size w (w.alloc (.cells #[.slice none 0 0, .int .i64 0] 24)) := (Below.refl w.heap.size w).alloc (Nat.le_refl _) _
  have hbox := Box2.new w 24 (.slice none 0 0) (.int .i64 0)
  have hxl : xs.length = n := hx.len
  have hmb := hMeas_bd (xs := xs) hx.ok
  have hrb := hRows_bd (xs := xs) hx.ok
  have HC := Lib.hid (head_yes ad n c xs _ (hx.keep (Keeps.of_below hb0)) hc hcm h)
  have Hb0 := Lib.hid hb0
  have Hbox := Lib.hid hbox
  have hh := headOk_ahead h
  rw [hyes] at hh
  have hh2 : checkB (hCards xs) (hMeas xs) = true ∧ hRows xs ≤ 300 := by simpa using hh.symm
  obtain ⟨hck, hr300⟩ := hh2
  have hm2 := (checkB_spec hck).2.2.2.1
  have hd1 := (checkB_spec hck).1
  rw [hCards_len] at hd1
  obtain ⟨h1, h2, hd4, h8⟩ := ahead_yes h
  rw [hxl] at h8
  obtain ⟨d, hd⟩ : ∃ d, d = hDims xs := ⟨_, rfl⟩
  obtain ⟨me, hme⟩ : ∃ me : Nat, hMeas xs = (me : Int) := Int.eq_ofNat_of_zero_le hmb.1
  obtain ⟨r, hr⟩ : ∃ r : Nat, hRows xs = (r : Int) := Int.eq_ofNat_of_zero_le hrb.1
  obtain ⟨s, hs⟩ : ∃ s, s = d + 8 * me := ⟨_, rfl⟩
  obtain ⟨L, hL⟩ : ∃ L, L = r * s := ⟨_, rfl⟩
  have hdl : dLen xs = 8 + d + L := by rw [dLen, hr, hme, ← hd, hL, hs]; simp
  rw [← hd] at hd1 hd4 h8
  rw [hme] at hck hm2
  rw [hr] at hr300
  have hLb : L ≤ 300 * 100 := by rw [hL]; exact Nat.mul_le_mul (by omega) (by omega)
  have Hyes := Lib.hid hyes
  have Hxb := Lib.hid hx.ok
  clear hb0 hbox hh hyes h1 h2 hmb hrb
  have Hd := Lib.hid hd
  have Hme := Lib.hid hme
  have Hr := Lib.hid hr
  have Hxl := Lib.hid hxl
  have HL := Lib.hid hL
  have Hdl := Lib.hid hdl
  have a1 : IntKind.i64.wrap (8 * (me : Int)) = 8 * (me : Int) := IntWalk.i64_in _ (by omega)
  have a2 : IntKind.i64.wrap ((d : Int) + 8 * (me : Int)) = (s : Int) := wrapN s (by omega) (by rw [hs]; simp)
  have a3 : IntKind.i64.wrap ((r : Int) * (s : Int)) = (L : Int) := wrapN L (by omega) (by rw [hL]; simp)
  have hrg : ¬ (300 : Int) < (r : Int) := by omega
  have Hs := Lib.hid hs
  clear hd hme hr hxl hL hdl hs
  go_enter Try.func16, Try.ntmps16
  go_wp2_with fail
  refine HC.out.mono ?_
  rintro e w1 ⟨A, cc, Ar, rfl, hnc, htl, hb1, hfar⟩
  have hbx := Hbox.out.below hb1 (by simp)
  have hB1 := Hb0.out.trans (hb1.mono (by simp))
  obtain ⟨S, hS⟩ : ∃ S, S = w1.heap.size := ⟨_, rfl⟩
  have hne : w.heap.size ≠ S := by have := hbx.lt; omega
  have hbx2 : Box2 24 (w1.alloc (.cells #[.slice A d cc, .int .i64 me] 24)) w.heap.size (.slice none 0 0) (.int .i64 0) := hbx.alloc _
  have hsx2 : Box2 24 (w1.alloc (.cells #[.slice A d cc, .int .i64 me] 24)) S (.slice A d cc) (.int .i64 me) := heap_new _ _ S hS
  have hB2 : Below w.heap.size w (w1.alloc (.cells #[.slice A d cc, .int .i64 me] 24)) := hB1.alloc hB1.size _
  have hnc2 : Nums .i64 (w1.alloc (.cells #[.slice A d cc, .int .i64 me] 24)) A d (hCards xs) := by
    rw [← Hd.out] at hnc
    exact hnc.keep ((Keeps.refl _).alloc _)
  have hsz : (w1.alloc (.cells #[.slice A d cc, .int .i64 me] 24)).heap.size = S + 1 := by simp [hS]
  rw [Hme.out, Hr.out, ← Hd.out] 
  rw [← Hd.out] at htl
  have hfar2 : ∀ a : Addr, A = some a → a.block ≠ w.heap.size := fun a ea => by have := hfar a ea; simp at this; omega
  have HF := Lib.hid hfar2
  clear hbx hB1 hb1 hnc hfar hfar2
  obtain ⟨N, hN⟩ : ∃ N, N = n - (8 + d) := ⟨_, rfl⟩
  obtain ⟨C, hC⟩ : ∃ C, C = c - (8 + d) := ⟨_, rfl⟩
  rw [← hN, ← hC]
  have hNC : N ≤ C := by omega
  have hNn : n = 8 + d + N := by omega
  have hCm : C ≤ 9223372036854775807 := by omega
  have HN := Lib.hid hNn
  have HN2 := Lib.hid hN
  have HS := Lib.hid hS
  clear hNn hN hC hS
  go_upto_region 2 with (fail)
  rw [← HS.out]
  generalize w1.alloc _ = w2 at hbx2 hsx2 hB2 hnc2 hsz ⊢
  have htl2 : Nums .u8 w2 (some Ar) N (xs.drop (8 + d)) := by rw [HN2.out]; exact htl w2 (hx.keep (Keeps.of_below hB2))
  have Htl := Lib.hid htl2
  have Hsz := Lib.hid hsz
  have Hnc := Lib.hid hnc2
  have HB2 := Lib.hid hB2
  have Hbx := Lib.hid hbx2
  have Hsx := Lib.hid hsx2
  have HE := Lib.hid (zero_end hB2 hbx2)
  have s0 := hsx2.cell0
  have s1 := hsx2.cell1
  clear htl htl2 hnc2 hsz hB2 hx HC
  by_cases hlen : N = L
  · subst hlen
    clear HE
    go_wp2_with fail
    clear a3 s0 s1 hbx2 hsx2
    go_loopw [11, 12] (fun rv i wr => ∃ k : Nat, k ≤ r ∧ i = .int .i64 k ∧ RowsW wr (S + 1) (S + 1) rv ((dRows xs).take k) ∧ (∀ x ∈ (dRows xs).take k, rightB (hCards xs) me x = true) ∧ Below (S + 1) w2 wr) (fun _ i _ => r - (intOf i).toNat)
    case atStart => exact ⟨0, by omega, rfl, by simpa using RowsW.nil _ _ _, by simp, Below.refl _ _⟩
    case round =>
      rename World => w3
      obtain ⟨k, hk, rfl, hR, hall, hb3⟩ := hrel
      have HR := Lib.hid hR
      have Hall := Lib.hid hall
      have Hb3 := Lib.hid hb3
      clear hR hall hb3
      by_cases hlt : k < r
      · obtain ⟨q, hq⟩ : ∃ q, q = k * s := ⟨_, rfl⟩
        have hqN : q + s ≤ N := by
          rw [HL.out, hq, ← Nat.succ_mul]; exact Nat.mul_le_mul_right s hlt
        have b1 : IntKind.i64.wrap ((k : Int) * (s : Int)) = (q : Int) := wrapN q (by omega) (by rw [hq]; simp)
        have b2 : IntKind.i64.wrap ((q : Int) + (s : Int)) = ((q + s : Nat) : Int) := wrapN (q + s) (by omega) (by simp)
        have b3 : (0 : Int) ≤ (q : Int) := by omega
        have b4 : (q : Int) ≤ ((q + s : Nat) : Int) := by omega
        have b5 : ((q + s : Nat) : Int) ≤ (C : Int) := by omega
        have b6 : ((q + s : Nat) : Int).toNat = q + s := by omega
        have b7 : ((q : Nat) : Int).toNat = q := by omega
        have Hq := Lib.hid hq
        have hs8 : 1 ≤ s := by rw [Hs.out]; omega
        clear hq
        obtain ⟨r0, hr0⟩ : ∃ r, r = w3.heap.size := ⟨_, rfl⟩
        have hrow : (dRow xs k) = ⟨chunks id 1 d (xs.drop (8 + d + q)), chunks wrap64 8 me (xs.drop (8 + d + q + d))⟩ := by
          rw [dRow, Hme.out, ← Hd.out, Hq.out, Hs.out]
          simp [List.drop_drop]
        obtain ⟨kk, hkk⟩ : ∃ kk, kk = chunks id 1 d (xs.drop (8 + d + q)) := ⟨_, rfl⟩
        obtain ⟨mm, hmm⟩ : ∃ mm, mm = chunks wrap64 8 me (xs.drop (8 + d + q + d)) := ⟨_, rfl⟩
        rw [← hkk, ← hmm] at hrow
        have hkl : kk.length = d := by simp [hkk, chunks]
        have hml : mm.length = me := by simp [hmm, chunks]
        have Hrow := Lib.hid hrow
        have Hkk := Lib.hid hkk
        have Hmm := Lib.hid hmm
        have Hkl := Lib.hid hkl
        have Hml := Lib.hid hml
        have Hr0 := Lib.hid hr0
        have b8 : q + s - q = s := by omega
        obtain ⟨C2, hC2⟩ : ∃ C2, C2 = C - q := ⟨_, rfl⟩
        have hsC : s ≤ C2 := by omega
        have hC2m : C2 ≤ 9223372036854775807 := by omega
        have HC2 := Lib.hid hC2
        clear hrow hkk hmm hkl hml hr0 hC2
        go_upto_region 13 with (fail)
        rw [← HC2.out, b8]
        clear b1 b2 b4 b5 b6 b7 b8 b3
        go_wp2_with fail
        rw [← Hr0.out]
        have q1 : Box2 33 (w3.alloc (.cells #[.slice none 0 0, .slice none 0 0] 33)) r0 (.slice none 0 0) (.slice none 0 0) := heap_new _ _ r0 Hr0.out
        have q2 : Below r0 w3 (w3.alloc (.cells #[.slice none 0 0, .slice none 0 0] 33)) := by rw [Hr0.out]; exact (Below.refl _ _).alloc (Nat.le_refl _) _
        have q3 : r0 < (w3.alloc (.cells #[.slice none 0 0, .slice none 0 0] 33)).heap.size := by simp [Hr0.out]
        generalize w3.alloc _ = w4 at q1 q2 q3 ⊢
        have hSr : S + 1 ≤ r0 := by rw [Hr0.out, ← Hsz.out]; exact Hb3.out.size
        go_loopw [15] (fun j wr => ∃ e : Nat, e ≤ d ∧ j = .int .i64 e ∧ ∃ kv, Box2 33 wr r0 kv (.slice none 0 0) ∧ wr.ownsRow (r0 + 1) 3 1 kv (kk.take e).length (ints (kk.take e)) ∧ Below r0 w3 wr ∧ r0 < wr.heap.size) (fun j _ => d - (intOf j).toNat)
        case atStart => exact ⟨0, by omega, rfl, _, q1, World.ownsRow_nil _ _ _ _, q2, q3⟩
        case round =>
          rename World => w5
          obtain ⟨e, he, rfl, kv, s1, s2, s3, s4⟩ := hrel
          clear q1 q2 q3
          have hrw : r0 = w3.heap.size := Hr0.out
          have c3 := s1.cell0
          have S1 := Lib.hid s1
          have S2 := Lib.hid s2
          have S3 := Lib.hid s3
          have hb5 : Below (S + 1) w2 w5 := Hb3.out.trans (s3.mono (by omega))
          have Hb5 := Lib.hid hb5
          clear s1 s2 s3 hrw hb5
          by_cases hed : e < d
          · skip
            obtain ⟨y, hy, hy1, hy2, hyc⟩ := key_at (e := e) (d := d) (q := q) (Htl.out.keep (Keeps.of_below (by rw [Hsz.out]; exact Hb5.out))) hed (by have := Hs.out; omega)
            rw [← Hkk.out] at hy
            obtain ⟨v', w', hrun, ho', hgr⟩ := append_int w5.drew (r0 + 1) kv (kk.take e) y w5.heap.size rfl S2.out (by rw [List.length_take]; omega) (by exact s4)
            rw [← take_snoc hy] at ho'
            obtain ⟨A', c', hv', -⟩ := own_form ho'
            obtain ⟨n', hn'⟩ : ∃ n', n' = (kk.take (e + 1)).length := ⟨_, rfl⟩
            rw [← hn'] at hv'
            subst hv'
            have g1 : Box2 33 (w5.drew.alloc (.cells #[.int .i64 y] 3)) r0 kv (.slice none 0 0) := S1.out.alloc _
            have g2 : (w5.drew.alloc (.cells #[.int .i64 y] 3)).ownsRow (r0 + 1) 3 1 kv (kk.take e).length (ints (kk.take e)) := S2.out.alloc _
            have g3 : Below r0 w3 (w5.drew.alloc (.cells #[.int .i64 y] 3)) := (below_drewN S3.out 1).alloc (Nat.le_of_lt (by exact s4)) _
            have g4 : r0 < (w5.drew.alloc (.cells #[.int .i64 y] 3)).heap.size := by rw [show (w5.drew.alloc (.cells #[.int .i64 y] 3)).heap.size = w5.heap.size + 1 from by simp]; omega
            have b1' := g1.grown hgr g2 (by decide)
            have hend : Box2 33 (w'.setCell ⟨r0, 0, none⟩ (.slice A' n' c')) r0 (.slice A' n' c') (.slice none 0 0) ∧ (w'.setCell ⟨r0, 0, none⟩ (.slice A' n' c')).ownsRow (r0 + 1) 3 1 (.slice A' n' c') (kk.take (e + 1)).length (ints (kk.take (e + 1))) ∧
                Below r0 w3 (w'.setCell ⟨r0, 0, none⟩ (.slice A' n' c')) ∧ r0 < (w'.setCell ⟨r0, 0, none⟩ (.slice A' n' c')).heap.size := by
              refine ⟨b1'.set0 _, own_box ho' b1' (by decide) _ _, ?_, ?_⟩
              · exact (g3.grown hgr (by omega) fun j hj => by have := (g2.lt j hj).1; omega).setCell (Nat.le_refl _) _
              · have := hgr.size; simp [World.setCell]; omega
            have E := Lib.hid hend
            have c0' := b1'.cell0
            have f0' := b1'.frozen 0
            have Hrun := Lib.hid hrun
            have he0 : (0 : Int) ≤ (e : Int) := by omega
            have hed2 : (e : Int) < (s : Int) := by rw [Hs.out]; omega
            have i5 : IntKind.i64.wrap y = y := IntWalk.i64_in _ (by omega)
            have hyc2 : w5.cell? ((Ar.add q).add e) = some (.int .u8 y) := by
              rw [add_of_add]; exact hyc
            clear hrun ho' hgr hy hn' g1 g2 g3 g4 b1' hend hyc
            go_upto_region 17 with (fail)
            go_region_law (first | (refine step_append_eq (by rfl) (.tmp 67) (.tmp 73) 22 (by rfl) kv (.slice (some ⟨w5.heap.size, 0, none⟩) 1 1) (.slice A' n' c') w' (by rfl) (by rfl) Hrun.out ?_) | fail)
            all_goals
              go_wp2
              exact ⟨⟨e + 1, by omega, by go_num, _, E.out⟩, by simp [intOf]; omega⟩
          · obtain rfl : e = d := by omega
            have htk : kk.take e = kk := List.take_of_length_le (by rw [Hkl.out]; exact Nat.le_refl _)
            have s2 := S2.out
            rw [htk] at s2
            obtain ⟨K, hK⟩ : ∃ K, K = w5.heap.size := ⟨_, rfl⟩
            have hkK : ∀ b ∈ blk kv, b < K := fun b hb => by rw [hK]; exact (own_blk s2 b hb).2
            have hKr : r0 < K := by rw [hK]; exact s4
            have hKz : K ≤ w5.heap.size := Nat.le_of_eq hK
            have HkK := Lib.hid hkK
            have T2 := Lib.hid s2
            clear hed htk s2 hkK hK S2 he
            have sS := Hsx.out.below Hb5.out (by omega)
            have cS := sS.cell1
            clear sS
            go_wp2_with fail
            clear cS
            go_loopw [16] (fun j wr => ∃ f : Nat, f ≤ me ∧ j = .int .i64 f ∧ ∃ mv, Box2 33 wr r0 kv mv ∧ wr.ownsRow (r0 + 1) 3 1 kv kk.length (ints kk) ∧ wr.ownsRow K 3 1 mv (mm.take f).length (ints (mm.take f)) ∧ Below r0 w3 wr ∧ K ≤ wr.heap.size) (fun j _ => me - (intOf j).toNat)
            case atStart => exact ⟨0, by omega, rfl, _, S1.out, T2.out, World.ownsRow_nil _ _ _ _, S3.out, hKz⟩
            case round =>
              rename World => w6
              obtain ⟨f, hf, rfl, mv, s1, s2, s2m, s3, s4'⟩ := hrel
              clear c3 s4 hKz
              have hb6 : Below (S + 1) w2 w6 := Hb3.out.trans (s3.mono (by omega))
              have sS := Hsx.out.below hb6 (by omega)
              have cS := sS.cell1
              have c3 := s1.cell0
              have d3 := s1.cell1
              have T1 := Lib.hid s1
              have T2 := Lib.hid s2
              have T2m := Lib.hid s2m
              have T3 := Lib.hid s3
              have Hb6 := Lib.hid hb6
              have HsS := Lib.hid sS
              have hr4 : r0 < w6.heap.size := by omega
              clear s1 s2 s2m s3 hb6 sS
              by_cases hfm : f < me
              · skip
                obtain ⟨p, hp⟩ : ∃ p, p = e + 8 * f := ⟨_, rfl⟩
                have hps : p + 8 ≤ s := by have := Hs.out; omega
                have hnb : Nums .u8 w2 (some ((Ar.add q).add p)) 8 (((xs.drop (8 + e + q + e)).drop (8 * f)).take 8) := by
                  have := (Htl.out.drop (k := q + p) (by omega)).take 8 (by omega)
                  rw [add_of_add]
                  rw [List.drop_drop] at this ⊢
                  rwa [show 8 + e + q + e + 8 * f = 8 + e + (q + p) from by omega]
                have hba := fun (W : World) (hW : Below (S + 1) w2 W) => Back_any ((Ar.add q).add p) 8 (C2 - p) _ W (hnb.keep (Keeps.of_below (by rw [Hsz.out]; exact hW))) (by omega)
                obtain ⟨y, hy⟩ : ∃ y, y = wrap64 (beVal ((((xs.drop (8 + e + q + e)).drop (8 * f)).take 8).take 8)) := ⟨_, rfl⟩
                rw [← hy] at hba
                have hym : mm[f]? = some y := by
                  rw [Hmm.out]
                  simp only [chunks, List.getElem?_map, List.getElem?_range hfm, Option.map_some]
                  rw [hy, List.take_take, Nat.min_self]
                have HBa := Lib.hid (hba w6.drew (below_drewN Hb6.out 1))
                obtain ⟨v', w', hrun, ho', hgr⟩ := append_int w6.drew K mv (mm.take f) y w6.heap.size rfl T2m.out (by rw [List.length_take]; omega) (by exact s4')
                rw [← take_snoc hym] at ho'
                obtain ⟨A', c', hv', -⟩ := own_form ho'
                obtain ⟨n', hn'⟩ : ∃ n', n' = (mm.take (f + 1)).length := ⟨_, rfl⟩
                rw [← hn'] at hv'
                subst hv'
                have g1 : Box2 33 (w6.drew.alloc (.cells #[.int .i64 y] 3)) r0 kv mv := T1.out.alloc _
                have g2 : (w6.drew.alloc (.cells #[.int .i64 y] 3)).ownsRow (r0 + 1) 3 1 kv kk.length (ints kk) := T2.out.alloc _
                have g2m : (w6.drew.alloc (.cells #[.int .i64 y] 3)).ownsRow K 3 1 mv (mm.take f).length (ints (mm.take f)) := T2m.out.alloc _
                have g3 : Below r0 w3 (w6.drew.alloc (.cells #[.int .i64 y] 3)) := (below_drewN T3.out 1).alloc (Nat.le_trans (Nat.le_of_lt hKr) (by exact s4')) _
                have g4 : K ≤ (w6.drew.alloc (.cells #[.int .i64 y] 3)).heap.size := by rw [show (w6.drew.alloc (.cells #[.int .i64 y] 3)).heap.size = w6.heap.size + 1 from by simp]; omega
                have b1' := g1.grown hgr g2m (by decide)
                have hend : Box2 33 (w'.setCell ⟨r0, 1, none⟩ (.slice A' n' c')) r0 kv (.slice A' n' c') ∧ (w'.setCell ⟨r0, 1, none⟩ (.slice A' n' c')).ownsRow (r0 + 1) 3 1 kv kk.length (ints kk) ∧
                    (w'.setCell ⟨r0, 1, none⟩ (.slice A' n' c')).ownsRow K 3 1 (.slice A' n' c') (mm.take (f + 1)).length (ints (mm.take (f + 1))) ∧
                    Below r0 w3 (w'.setCell ⟨r0, 1, none⟩ (.slice A' n' c')) ∧ K ≤ (w'.setCell ⟨r0, 1, none⟩ (.slice A' n' c')).heap.size := by
                  refine ⟨b1'.set1 _, own_box (g2.kept hgr (own_two HkK.out g2m)) b1' (by decide) _ _, own_box ho' b1' (by decide) _ _, ?_, ?_⟩
                  · exact (g3.grown hgr (by omega) fun j hj => by have := (g2m.lt j hj).1; omega).setCell (Nat.le_refl _) _
                  · have := hgr.size; simp [World.setCell]; omega
                have E := Lib.hid hend
                have d3' := b1'.cell1
                have f3' := b1'.frozen 1
                have Hrun := Lib.hid hrun
                have hC2s : s ≤ C2 := hsC
                have k1 : IntKind.i64.wrap (8 * (f : Int)) = 8 * (f : Int) := IntWalk.i64_in _ (by omega)
                have k2 : IntKind.i64.wrap ((e : Int) + 8 * (f : Int)) = (p : Int) := wrapN p (by omega) (by rw [hp]; simp)
                obtain ⟨p8, hp8⟩ : ∃ p8, p8 = p + 8 := ⟨_, rfl⟩
                have k3 : IntKind.i64.wrap ((p : Int) + 8) = (p8 : Int) := wrapN p8 (by omega) (by rw [hp8]; simp)
                have k4 : (0 : Int) ≤ (p : Int) := by omega
                have k5 : p ≤ p8 := by omega
                have k6 : p8 ≤ C2 := by omega
                have k7 : ¬ C2 = p := by omega
                have k8 : p8 - p = 8 := by omega
                have Hp8 := Lib.hid hp8
                have Hp := Lib.hid hp
                clear hrun ho' hgr hym hy hn' g1 g2 g2m g3 g4 b1' hend hp hp8 hba hnb hps
                go_upto_region 21 with (fail)
                go_region_law (first | (go_simp; go_at_call 31; refine HBa.out.mono ?_; rintro e w2 ⟨rfl, rfl⟩) | (refine step_append_eq (by rfl) (.tmp 83) (.tmp 96) 22 (by rfl) mv (.slice (some ⟨w6.heap.size, 0, none⟩) 1 1) (.slice A' n' c') w' (by rfl) (by rfl) Hrun.out ?_) | fail)
                all_goals
                  go_wp2
                  exact ⟨⟨f + 1, by omega, by go_num, _, E.out⟩, by simp [intOf]; omega⟩
              · obtain rfl : me = f := by omega
                have htm : mm.take me = mm := List.take_of_length_le (by rw [Hml.out]; exact Nat.le_refl _)
                have s2m := T2m.out
                rw [htm] at s2m
                have o1 := own_slice T2.out
                have o2 := own_slice s2m
                have hkb : ∀ x ∈ kk, inK .i64 x := by rw [Hkk.out]; exact bytes_i64 (chunks_bytes (Bytes.drop (show Bytes xs from Hxb.out) _) _)
                have hmb : ∀ x ∈ mm, inK .i64 x := by rw [Hmm.out]; exact chunks_i64 8 me _
                obtain ⟨Ak, ck, hkv, -, -, hnk⟩ := own_nums T2.out hkb
                obtain ⟨Am, cm, hmv, -, -, hnm⟩ := own_nums s2m hmb
                rw [Hkl.out] at hkv hnk
                rw [Hml.out] at hmv hnm
                subst hkv hmv
                have hRr := rRight_any A Ak Am e cc e ck me cm (hCards xs) me (dRow xs k) w6 (Hnc.out.keep (Keeps.of_below (by rw [Hsz.out]; exact Hb6.out))) (by rw [Hrow.out]; exact hnk) (by rw [Hrow.out]; exact hnm) (by omega) (by omega) (by omega) (by simp only [inK]; omega)
                have HRr := Lib.hid hRr
                have cS0 := HsS.out.cell0
                have O1 := Lib.hid o1
                have O2 := Lib.hid o2
                have S2m := Lib.hid s2m
                clear T2m htm s2m hkb hmb hnk hnm hRr o1 o2 hfm hf
                go_wp2_with fail
                refine HRr.out.mono ?_
                rintro e7 w7 ⟨rfl, hb7⟩
                have hB7 : Below (S + 1) w2 w7 := Hb6.out.trans (hb7.mono (by omega))
                have t1 := T1.out.below hb7 hr4
                have c3 := t1.cell0
                have d3 := t1.cell1
                have t2 := own_below T2.out hb7 (Nat.le_refl _)
                have t2m := own_below S2m.out hb7 (Nat.le_refl _)
                have hR7 := (HR.out.below T3.out (by rw [Hr0.out]; exact Nat.le_refl _)).below hb7 (Nat.le_refl _)
                have hat := dRows_at (xs := xs) (k := k) (by rw [Hr.out]; simpa using hlt)
                have HB7 := Lib.hid hB7
                have HT2 := Lib.hid t2
                have HT2m := Lib.hid t2m
                have HR7 := Lib.hid hR7
                have Hat := Lib.hid hat
                clear cS cS0 t1 t2 t2m hR7 hB7 hat hb7 HRr T1 T2 T3
                cases hrt : rightB (hCards xs) me (dRow xs k) with
                | false =>
                  have hno : decOk xs = false := by
                    have : (dRows xs).all (rightB (hCards xs) (hMeas xs)) = false := by
                      rw [List.all_eq_false]
                      exact ⟨_, List.mem_of_getElem? Hat.out, by rw [Hme.out, hrt]; simp⟩
                    rw [decOk, this, Bool.and_false, Bool.and_false]
                  have hbx7 := Hbx.out.below HB7.out (by have := Hbx.out.lt; have := Hsz.out; omega)
                  have hBw := HB2.out.trans (HB7.out.mono (by have := HB2.out.size; have := Hsz.out; omega))
                  have x0 := hbx7.cell0
                  have x1 := hbx7.cell1
                  have y0 := hbx7.frozen 0
                  have y1 := hbx7.frozen 1
                  have HE := Lib.hid (zero_end hBw hbx7)
                  have Hno := Lib.hid hno
                  clear hno hbx7 hBw
                  go_wp2
                  have hend := HE.out
                  generalize (World.setCell _ _ _).setCell _ _ = W at hend ⊢
                  exact bodyPost_ret (v := zeroDec) (by simp [results, Try.results16, zeroDec, go_sem, hend.1.cell0, hend.1.cell1]) rfl ⟨hend.2, .inl ⟨Hno.out, rfl⟩⟩
                | true =>
                  have hRV : RowV w7 (S + 1) (.slice Ak e ck, .slice Am me cm) (dRow xs k) := by
                    rw [Hrow.out]
                    exact ⟨HT2.out.mono (by omega), HT2m.out.mono (by omega)⟩
                  obtain ⟨v', w', hrun, hR', hb'⟩ := append_row w7 (S + 1) _ _ (dRow xs k) (.slice Ak e ck) (.slice Am me cm) w7.heap.size rfl HR7.out hRV O1.out O2.out (by rw [List.length_take]; omega) (by have := HB7.out.size; have := Hsz.out; omega)
                  rw [← take_snoc Hat.out] at hR'
                  have Hrun := Lib.hid hrun
                  have HR' := Lib.hid hR'
                  have Hb' := Lib.hid (HB7.out.trans hb')
                  have Hall' : Hid (∀ x ∈ (dRows xs).take (k + 1), rightB (hCards xs) me x = true) := Lib.hid (by
                    rw [take_snoc Hat.out]
                    intro x hx
                    rcases List.mem_append.1 hx with hx | hx
                    · exact Hall.out x hx
                    · rw [List.mem_singleton.1 hx]; exact hrt)
                  clear hrun hR' hb' hRV
                  go_wp2_with (at_builtin; have _t := Hrun; refine wpList_append_eq rfl (.tmp 104) (.tmp 106) 25 rfl _ _ _ _ rfl rfl Hrun.out ?_; clear _t Hrun)
                  exact ⟨⟨k + 1, by omega, by go_num, HR'.out, Hall'.out, Hb'.out⟩, by simp [intOf]; omega⟩
      · obtain rfl : k = r := by omega
        have hall := Hall.out
        have hR := HR.out
        rw [List.take_of_length_le (by rw [dRows_len, Hr.out]; simp)] at hall hR
        have hok : decOk xs = true := by
          rw [decOk, Hyes.out, decide_eq_true (show xs.length = dLen xs by rw [Hxl.out, Hdl.out, HN.out]), Hme.out]
          simpa using hall
        have hbx3 := Hbx.out.below Hb3.out (by have := Hbx.out.lt; have := Hsz.out; omega)
        have hsx3 := Hsx.out.below Hb3.out (by omega)
        have s0 := hsx3.cell0
        have s1 := hsx3.cell1
        have x0 := hbx3.cell0
        have x1 := hbx3.cell1
        have y0 := hbx3.frozen 0
        have y1 := hbx3.frozen 1
        have hwS : w.heap.size ≤ S := by have := Hbx.out.lt; have := Hsz.out; omega
        have hBw : Below w.heap.size w w3 := HB2.out.trans (Hb3.out.mono (by have := HB2.out.size; have := Hsz.out; omega))
        have t0 := (hbx3.set0 (.slice A d cc)).set1 (.int .i64 me)
        have hon : Only w.heap.size w3 ((w3.setCell ⟨w.heap.size, 0, none⟩ (.slice A d cc)).setCell ⟨w.heap.size, 1, none⟩ (.int .i64 me)) := ((Only.refl _ _).setCell 0 _).setCell 1 _
        have hnc3 : Nums .i64 w3 A d (hCards xs) := Hnc.out.keep (Keeps.of_below (by rw [Hsz.out]; exact Hb3.out))
        have E0 := Lib.hid t0.cell0
        have E1 := Lib.hid t0.cell1
        have Hon := Lib.hid hon
        have HBw := Lib.hid hBw
        have Hnc3 := Lib.hid hnc3
        have HRr := Lib.hid hR
        have Hok := Lib.hid hok
        clear hall hR hok hbx3 hsx3 hBw t0 hon hnc3 HR Hall hlt
        go_wp2
        have e0 := E0.out
        have e1 := E1.out
        exact bodyPost_ret (v := .tuple #[.agg #[.slice A d cc, .int .i64 me], u11, .int .i64 0]) (by simp [results, Try.results16, go_sem, e0, e1]) rfl
          ⟨HBw.out.trans (Hon.out.below (Nat.le_refl _) HBw.out.size), .inr ⟨Hok.out, A, cc, u11, S + 1, by rw [Hme.out, ← Hd.out], by rw [← Hd.out]; exact Hnc3.out.only Hon.out HF.out, RowsV.only HRr.out Hon.out (by omega)⟩⟩
  · have hno : decOk xs = false := decOk_len (by rw [Hxl.out, Hdl.out, HN.out]; omega)
    have x0 := Hbx.out.cell0
    have x1 := Hbx.out.cell1
    have y0 := Hbx.out.frozen 0
    have y1 := Hbx.out.frozen 1
    have Hno := Lib.hid hno
    have hlen2 : ¬ (N : Int) = (L : Int) := by omega
    clear hno
    go_wp2
    have hend := HE.out
    generalize (World.setCell _ _ _).setCell _ _ = W at hend ⊢
    exact bodyPost_ret (v := zeroDec) (by simp [results, Try.results16, zeroDec, go_sem, hend.1.cell0, hend.1.cell1]) rfl ⟨hend.2, .inl ⟨Hno.out, rfl⟩⟩
theorem rDecode_any (ad : Addr) (n c : Nat) (xs : List Int) (w : World) (hx : Nums .u8 w (some ad) n xs) (hc : n ≤ c) (hcm : c ≤ 9223372036854775807) :
    Calls Try.prog 16 #[.slice (some ad) n c] w (RDecPost xs w) := by
  cases h : ahead xs with
  | false => exact (rDecode_ahead (some ad) n c xs w hx hc hcm h).mono fun e w' hp => ⟨hp.2, .inl ⟨ahead_no h, hp.1⟩⟩
  | true =>
    cases hh : headOk xs with
    | false => exact (rDecode_bad ad n c xs w hx hc hcm h hh).mono fun e w' hp => ⟨hp.2, .inl ⟨decOk_head hh, hp.1⟩⟩
    | true => exact rDecode_rest ad n c xs w hx hc hcm h hh
theorem rDecode_none (A : Option Addr) (n c : Nat) (xs : List Int) (w : World) (hx : Nums .u8 w A n xs) (hc : n ≤ c) (hcm : c ≤ 9223372036854775807) :
    Calls Try.prog 16 #[.slice A n c] w (RDecPost xs w) := by
  cases A with
  | some ad => exact rDecode_any ad n c xs w hx hc hcm
  | none =>
    have hn : n = 0 := by
      rcases Nat.eq_zero_or_pos n with h | h
      · exact h
      · obtain ⟨a, ha, -⟩ := hx.2.2 h
        cases ha
    have h : ahead xs = false := by
      have := hx.len
      rw [ahead, decide_eq_false (by omega), Bool.false_and]
    exact (rDecode_ahead none n c xs w hx hc hcm h).mono fun e w' hp => ⟨hp.2, .inl ⟨ahead_no h, hp.1⟩⟩
end Go.Proofs.Ytnabmbnfmnpcoaa
