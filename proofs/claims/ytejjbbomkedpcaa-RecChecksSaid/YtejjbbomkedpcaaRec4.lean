import Derived.Test.YtejjbbomkedpcaaRec3
import Derived.Test.YtejjbbomkedpcaaRec2
import Derived.Lib.LazyBuf
namespace Go.Proofs.Ytejjbbomkedpcaa
open Go.RowKit
set_option maxHeartbeats 1000000 in
theorem size_any (A : Option Addr) (n c : Nat) (me r : Int) (w : World) (hn : n ≤ 4) (h1 : 0 ≤ me) (h2 : me ≤ 2) (h3 : 0 ≤ r) (h4 : r ≤ 300) :
    Calls Try.prog 18 #[.agg #[.slice A n c, .int .i64 me], .int .i64 r] w fun e w' => e = .returned (.int .i64 (8 + n + r * (n + 8 * me))) ∧ Below w.heap.size w w' := by
  obtain ⟨me, rfl⟩ := Int.eq_ofNat_of_zero_le h1
  obtain ⟨r, rfl⟩ := Int.eq_ofNat_of_zero_le h3
  have b1 : (0 : Int) ≤ (r : Int) * (n + 8 * me) := Int.mul_nonneg (by omega) (by omega)
  have b2 : (r : Int) * (n + 8 * me) ≤ 300 * 20 := Int.mul_le_mul (by omega) (by omega) (by omega) (by omega)
  go_enter Try.func18, Try.ntmps18
  go_wp2_with (first
    | (go_at_call 29; refine (width8 _).mono ?_; rintro e w1 ⟨rfl, rfl⟩)
    | (go_at_call 30; refine (width16 _).mono ?_; rintro e w1 ⟨rfl, rfl⟩))
  go_quiet (first | (go_at_call 29; exact quiet_left (width8 _)) | (go_at_call 31; exact quiet_left (width64 _)))
  go_wp2
  go_ret
  exact ⟨ret_int (by omega), below_drewN ((Below.refl _ _).alloc (Nat.le_refl _) _) _⟩

theorem Buf.sets {g : Nat} : ∀ (l : List Int) (off : Nat) (w : World) (bs : List Int), Buf w g bs → off + l.length ≤ bs.length →
    Buf (w.setCells g off (l.map (Value.int .u8))) g (spl bs off l) ∧ Only g w (w.setCells g off (l.map (Value.int .u8)))
  | [], off, w, bs, h, _ => by rw [spl_nil]; exact ⟨h, Only.refl _ _⟩
  | x :: t, off, w, bs, h, hl => by
    simp only [List.length_cons] at hl
    have e1 : bs.set off x = spl bs off [x] := by
      have := spl_snoc (bs := bs) (off := off) (ys := []) (by simp; omega) x
      rw [spl_nil] at this
      simpa using this
    have h1 := h.set_ off x
    rw [e1] at h1
    have hlen : (spl bs off [x]).length = bs.length := spl_len (by simp; omega)
    obtain ⟨h2, h3⟩ := Buf.sets t (off + 1) _ _ h1 (by rw [hlen]; omega)
    rw [spl_behind t (k := 1) rfl (by omega)] at h2
    exact ⟨h2, ((Only.refl g w).setCell off _).trans h3⟩

set_option maxRecDepth 100000 in
theorem copy_str {P : Program} (dT sT ty elem : TypeId) (hu : P.underlying dT = some (.slice elem)) (hz : ∀ w, (Go.sizeOf elem).run P w = .ok 1 w) (w : World) (g off n : Nat) (bs l : List Int) (s : ByteArray)
    (hs : (s.data.toList.map fun x => Value.int .u8 (x.toNat : Int)) = l.map (Value.int .u8)) (hB : Buf w g bs) (hn : off + n = bs.length) (hl : l.length ≤ n) :
    ∃ w1, (Builtin.copy_ #[dT, sT] ty #[.slice (some ⟨g, off, none⟩) n n, .string s]).run P w = .ok (goInt l.length) w1 ∧ Buf w1 g (spl bs off l) ∧ Only g w w1 := by
  have hsz : s.size = l.length := by
    have := congrArg List.length hs
    rw [List.length_map, List.length_map, ← Lib.size_eq] at this
    exact this
  obtain ⟨h1, h2⟩ := Buf.sets l off w bs hB (by omega)
  have hr := run_copy_string (P := P) w dT sT ty elem g off n n s hu hz (by omega)
    (fun j hj => by
      have hj' : off + j < bs.length := by omega
      rw [hB.cell (List.getElem?_eq_getElem hj')]; rfl)
    (fun j _ => hB.frozen _)
  rw [hs, hsz] at hr
  exact ⟨_, hr, h1, h2⟩

set_option maxHeartbeats 1000000 in
theorem putHead_any (g off n m c : Nat) (bs cs : List Int) (A : Option Addr) (me r : Int) (w0 w : World) (hw : Below w0.heap.size w0 w) (hg : w0.heap.size ≤ g) (hx : Nums .i64 w0 A m cs) (hB : Buf w g bs) (hn : off + n = bs.length) (hm : m ≤ 4)
    (h1 : 0 ≤ me) (h2 : me ≤ 2) (h3 : 0 ≤ r) (h4 : r ≤ 300) (hc : ∀ x ∈ cs, 1 ≤ x ∧ x ≤ 16) (hs : 8 + m ≤ n) (hbs : bs.length ≤ 4611686018427387904) :
    Calls Try.prog 22 #[.slice (some ⟨g, off, none⟩) n n, .agg #[.slice A m c, .int .i64 me], .int .i64 r] w (PutPost g off n bs (headB cs me r) w) := by
  have hBa : Buf (w.alloc (.cells #[.slice A m c, .int .i64 me] 24)) g bs := (Below.heap_alloc _ _ _ hB.lt).trans hB
  obtain ⟨w1, hcp, hb1, ho1⟩ := copy_str (P := Try.prog) 39 9 3 5 Try.underlying39 Try.sizeOf5 _ g off n bs [67, 85, 66, 49] ⟨#[67, 85, 66, 49]⟩ rfl hBa hn (by simp; omega)
  have hgw := hB.lt
  have hlen1 := spl_len (bs := bs) (off := off) (ys := [67, 85, 66, 49]) (by simp; omega)
  have hcl : (cs.flatMap (be 1)).length = m := by rw [flat_len (be 1) 1 (by intro x; exact be_len _ _), hx.len, Nat.one_mul]
  have hxl := hx.len
  have f0 : w1.cell? ⟨w.heap.size, 0, none⟩ = some (.slice A m c) := ho1.box hgw 0
  have f1 : w1.cell? ⟨w.heap.size, 1, none⟩ = some (.int .i64 me) := ho1.box hgw 1
  have Hn := Lib.hid hn
  have Hl := Lib.hid hlen1
  have Hcl := Lib.hid hcl
  have Hxl := Lib.hid hxl
  have Ho1 := Lib.hid ho1
  have Ho0 := Lib.hid ((Only.refl g w).of_alloc (.cells #[.slice A m c, .int .i64 me] 24))
  have hle : off + n ≤ 4611686018427387904 := by omega
  clear hn hlen1 hcl hxl ho1 hBa hB hbs
  go_enter Try.func22, Try.ntmps22
  go_wp2_with fail
  have l1 : (spl bs off [67, 85, 66, 49]).length = off + n := by rw [Hl.out, Hn.out]
  refine (put8 g _ _ _ _ w1 hb1 (by rw [l1]; omega) (by omega) (by omega) (by omega) (by rw [l1]; omega)).mono ?_
  intro e w2 h
  obtain ⟨ad, rfl, had, hb2, ho2⟩ := h.out (be_len _ _)
  obtain rfl := had (by omega)
  rw [spl_behind _ (k := 4) rfl (by have := Hn.out; omega)] at hb2
  have Ho2 := Lib.hid (Ho1.out.trans ho2)
  have f0 : w2.cell? ⟨w.heap.size, 0, none⟩ = some (.slice A m c) := Ho2.out.box hgw 0
  have f1 : w2.cell? ⟨w.heap.size, 1, none⟩ = some (.int .i64 me) := Ho2.out.box hgw 1
  clear ho2 had l1
  go_wp2_with fail
  have l2 : (spl bs off ([67, 85, 66, 49] ++ be 1 (m : Int))).length = off + n := by rw [spl_len (by rw [List.length_append, be_len]; have := Hn.out; simp; omega), Hn.out]
  refine (putAll8 g _ _ _ cs A m c w0 w2 (hw.trans ((Ho0.out.trans Ho2.out).below hg hw.size)) hg hx hb2 (by rw [l2]; omega) (by omega) (by rw [l2]; omega) (fun x hx => by have := hc x hx; omega)).mono ?_
  intro e w3 h
  obtain ⟨ad, rfl, had, hb3, ho3⟩ := h.out Hcl.out
  obtain rfl := had (by omega)
  rw [show off + 4 + 1 = off + 5 from rfl, spl_behind _ (k := 5) (by rw [List.length_append, be_len]; rfl) (by have := Hn.out; omega)] at hb3
  have Ho3 := Lib.hid (Ho2.out.trans ho3)
  have f0 : w3.cell? ⟨w.heap.size, 0, none⟩ = some (.slice A m c) := Ho3.out.box hgw 0
  have f1 : w3.cell? ⟨w.heap.size, 1, none⟩ = some (.int .i64 me) := Ho3.out.box hgw 1
  have Hb3 := Lib.hid hb3
  clear ho3 had l2 hb2 hb1 hb3
  go_wp2_with fail
  have l3 : ([67, 85, 66, 49] ++ be 1 (m : Int) ++ cs.flatMap (be 1)).length = 5 + m := by rw [List.length_append, List.length_append, be_len, Hcl.out]; rfl
  have l4 : (spl bs off ([67, 85, 66, 49] ++ be 1 (m : Int) ++ cs.flatMap (be 1))).length = off + n := by rw [spl_len (by rw [l3]; have := Hn.out; omega), Hn.out]
  refine (put8 g _ _ _ _ w3 Hb3.out (by rw [l4]; omega) (by omega) (by omega) (by omega) (by rw [l4]; omega)).mono ?_
  intro e w4 h
  obtain ⟨ad, rfl, had, hb4, ho4⟩ := h.out (be_len _ _)
  obtain rfl := had (by omega)
  rw [show off + 4 + 1 + m = off + (5 + m) from by omega, spl_behind _ (k := 5 + m) l3 (by have := Hn.out; omega)] at hb4
  have Ho4 := Lib.hid (Ho3.out.trans ho4)
  have Hb4 := Lib.hid hb4
  clear ho4 had l4 hb4
  go_wp2_with fail
  have l5 : ([67, 85, 66, 49] ++ be 1 (m : Int) ++ cs.flatMap (be 1) ++ be 1 me).length = 6 + m := by rw [List.length_append, l3, be_len]; omega
  have l6 : (spl bs off ([67, 85, 66, 49] ++ be 1 (m : Int) ++ cs.flatMap (be 1) ++ be 1 me)).length = off + n := by rw [spl_len (by rw [l5]; have := Hn.out; omega), Hn.out]
  refine (put16 g _ _ _ _ w4 Hb4.out (by rw [l6]; omega) (by omega) (by omega) (by omega) (by rw [l6]; omega)).mono ?_
  intro e w5 h
  obtain ⟨ad, rfl, had, hb5, ho5⟩ := h.out (be_len _ _)
  rw [show off + 4 + 1 + m + 1 = off + (6 + m) from by omega, spl_behind _ (k := 6 + m) l5 (by have := Hn.out; omega)] at hb5
  have Hb5 := Lib.hid hb5
  have Had := Lib.hid had
  clear hb5 had
  go_wp2
  go_ret
  have hfin : headB cs me r = [67, 85, 66, 49] ++ be 1 (m : Int) ++ cs.flatMap (be 1) ++ be 1 me ++ be 2 r := by rw [headB, Hxl.out]
  rw [hfin]
  have l7 : ([67, 85, 66, 49] ++ be 1 (m : Int) ++ cs.flatMap (be 1) ++ be 1 me ++ be 2 r).length = 8 + m := by rw [List.length_append, l5, be_len]; omega
  have := PutPost.mk (n := n) (ad := ad) l7 (fun h => (Had.out (by omega)).trans (by rw [show off + 4 + 1 + m + 1 + 2 = off + (8 + m) from by omega])) Hb5.out (Ho0.out.trans (Ho4.out.trans ho5))
  rw [show n - (8 + m) = n - 4 - 1 - m - 1 - 2 from by omega] at this
  exact this
end Go.Proofs.Ytejjbbomkedpcaa
