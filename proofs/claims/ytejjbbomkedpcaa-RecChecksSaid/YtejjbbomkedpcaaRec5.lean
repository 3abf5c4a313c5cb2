import Derived.Test.YtejjbbomkedpcaaRec4
namespace Go.Proofs.Ytejjbbomkedpcaa
open Go.RowKit
theorem info8 : (Try.prog.info? 5).map (fun i => (i.zero, i.size, i.bytes)) = some (some (.int .u8 0), 1, 1) := by kernel_rfl

set_option maxHeartbeats 1000000 in
theorem putAll64_none (D B : Option Addr) (n n' c : Nat) (w : World) :
    Calls Try.prog 24 #[.slice D n n', .slice B 0 c] w fun e w' => e = .returned (.slice D n n') ∧ w = w' := by
  go_enter Try.func24, Try.ntmps24
  go_wp2
  refine wp_loop_rounds 1 ?_
  rw [rounds_succ]
  go_wp2
  go_ret
  exact ⟨rfl, rfl⟩

/-- What Encode leaves: a new row of just these bytes. -/
def NewBytes (bs : List Int) (w : World) (e : Ending) (w' : World) : Prop :=
  ∃ g, e = .returned (.slice (some ⟨g, 0, none⟩) bs.length bs.length) ∧ Buf w' g bs ∧ Below w.heap.size w w' ∧ w.heap.size ≤ g

set_option maxHeartbeats 2000000 in
theorem Encode_any (A B : Option Addr) (n c m d : Nat) (cs : List Int) (me : Int) (l : List Fact) (w : World) (hl : Nums .i64 w A n cs) (hr : Facts w B m l) (hm : m ≤ 300) (ha : allRightB cs me l = true) :
    Calls Try.prog 13 #[.agg #[.slice A n c, .int .i64 me], .slice B m d] w (NewBytes (encB cs me l) w) := by
  obtain ⟨ck, hrr⟩ := allRightB_spec ha
  obtain ⟨k1, k2, k3, k4, k5⟩ := checkB_spec ck
  obtain ⟨me, rfl⟩ := Int.eq_ofNat_of_zero_le k3
  rw [hl.len] at k1 k2
  have hkm : ∀ r ∈ l, r.key.length = n ∧ r.m.length = me := fun r h => ⟨(keysB_len (rightB_key (hrr r h))).trans hl.len, by have := rightB_m (hrr r h); omega⟩
  obtain ⟨i0, hi, hz0, hz1, hz2⟩ := info_parts info8
  have hmk := fun (N : Nat) (hN : N ≤ 281474976710656) => make_bytes (P := Try.prog) 39 5 i0 Try.underlying39 hi hz0 hz1 hz2 N hN
  have hW1 : m * (n + 8 * me) ≤ 300 * 20 := Nat.mul_le_mul hm (by omega)
  obtain ⟨T, hT⟩ : ∃ T, T = m * (n + 8 * me) := ⟨_, rfl⟩
  rw [← hT] at hW1
  obtain ⟨L, hL⟩ : ∃ L, L = 8 + n + T := ⟨_, rfl⟩
  have hL1 : L ≤ 6012 := by omega
  have hmk := hmk L (by omega)
  have hLen : (encB cs me l).length = L := by
    rw [hL, encB, List.length_append, headB_len, rows_len (W := n + 8 * me) (fun r h => by rw [(hkm r h).1, (hkm r h).2]), hl.len, hr.1, hT]
  have HT := Lib.hid hT
  have HL := Lib.hid hL
  have Hmk := Lib.hid hmk
  have HLen := Lib.hid hLen
  have Ha := Lib.hid ha
  have Hkm := Lib.hid hkm
  have Hk8 := Lib.hid (fun r h x hx => keysB_small (rightB_key (hrr r h)) k5 x hx)
  obtain ⟨W, hW⟩ : ∃ W, W = n + 8 * me := ⟨_, rfl⟩
  have HW := Lib.hid hW
  clear hW
  clear hmk hT hL hLen ha ck hkm hrr i0 hi hz0 hz1 hz2
  go_enter Try.func13, Try.ntmps13
  go_wp2_with fail
  refine (allRight_any A B n c m d cs me l _ (hl.keep ((Keeps.refl _).alloc _)) (hr.keep ((Keeps.refl _).alloc _)) (by omega) (by omega) (fun r h => by have := Hkm.out r h; omega) ⟨by omega, by omega⟩).mono ?_
  rintro e w1 ⟨rfl, hb⟩
  rw [Ha.out]
  have f0 : w1.cell? ⟨w.heap.size, 0, none⟩ = some (.slice A n c) := box_at hb (by simp) _
  have f1 : w1.cell? ⟨w.heap.size, 1, none⟩ = some (.int .i64 me) := box_at hb (by simp) _
  have Hb := Lib.hid hb
  clear hb
  go_wp2_with fail
  refine (size_any A n c me m w1 k2 (by omega) k4 (by omega) (by omega)).mono ?_
  rintro e w2 ⟨rfl, hb2⟩
  rw [show (8 + (n : Int) + (m : Int) * (n + 8 * me)) = (L : Int) from by rw [HL.out, HT.out]; simp]
  have hB2 := Hb.out.trans (hb2.mono Hb.out.size)
  have f0 : w2.cell? ⟨w.heap.size, 0, none⟩ = some (.slice A n c) := box_at hB2 (by simp) _
  have f1 : w2.cell? ⟨w.heap.size, 1, none⟩ = some (.int .i64 me) := box_at hB2 (by simp) _
  have hz : w.heap.size < w2.heap.size := by have := hB2.size; simp at this; omega
  have HB2 := Lib.hid hB2
  clear hb2 hB2
  have hmk := Hmk.out w2
  have hbuf := Buf.made w2 L
  have ho0 : Below w.heap.size w (w2.alloc (.cells (madeCells #[.int .u8 0] L) 5)) := (((Below.refl w.heap.size w).alloc (Nat.le_refl _) _).trans (HB2.out.mono (by simp))).alloc (Nat.le_of_lt hz) _
  have Hbuf := Lib.hid hbuf
  have Ho0 := Lib.hid ho0
  clear hbuf ho0
  obtain ⟨w3, hw3⟩ : ∃ w3, w3 = w2.alloc (.cells (madeCells #[.int .u8 0] L) 5) := ⟨_, rfl⟩
  have f0 : w3.cell? ⟨w.heap.size, 0, none⟩ = some (.slice A n c) := by rw [hw3]; exact ((Keeps.refl w2).alloc _) _ _ f0
  have f1 : w3.cell? ⟨w.heap.size, 1, none⟩ = some (.int .i64 me) := by rw [hw3]; exact ((Keeps.refl w2).alloc _) _ _ f1
  have hz3 : w3.heap.size = w2.heap.size + 1 := by rw [hw3]; simp
  have Hz3 := Lib.hid hz3
  rw [← hw3] at Hbuf Ho0 hmk
  clear hw3 hz3
  go_wp2_with fail
  refine (putHead_any w2.heap.size 0 L n c _ cs A me m w w3 Ho0.out (by omega) hl Hbuf.out (by simp) k2 (by omega) k4 (by omega) (by omega) k5 (by have := HL.out; omega) (by simp; omega)).mono ?_
  intro e w4 h
  obtain ⟨ad, rfl, had, hb4, ho4⟩ := h.out (headB_len _ _ _)
  rw [hl.len, Nat.zero_add] at had
  rw [hl.len]
  have Had := Lib.hid had
  have Hb4 := Lib.hid hb4
  have Ho4 := Lib.hid ho4
  clear had hb4 ho4 f0 f1
  have hgz : w.heap.size ≤ w2.heap.size := by omega
  obtain ⟨g, hg⟩ : ∃ g, g = w2.heap.size := ⟨_, rfl⟩
  rw [← hg] at Had Hb4 Ho4 Hz3 hgz ⊢
  have Hg := Lib.hid hg
  clear hg hmk HB2
  go_wp2_with fail
  go_loopw [6, 8, 30] (fun b _ i wr => ∃ k : Nat, k ≤ m ∧ i = .int .i64 k ∧ Rest g (8 + n + k * W) (L - (8 + n + k * W)) b ∧ Buf wr g (spl (List.replicate L 0) 0 (headB cs me m ++ (l.take k).flatMap rowB)) ∧ Only g w3 wr) (fun _ _ i _ => m - (intOf i).toNat)
  case atStart => exact ⟨0, by omega, rfl, ⟨ad, by simp, fun h => by simpa using Had.out (by omega)⟩, by simpa using Hb4.out, Ho4.out⟩
  case round =>
    obtain ⟨k, hk, rfl, ⟨ad, rfl, had⟩, hbuf, hon⟩ := hrel
    have hBr := Ho0.out.trans (hon.below hgz (by have := Hz3.out; omega))
    have hgr : g < wr.heap.size := hbuf.lt
    have HBr := Lib.hid hBr
    have Hon := Lib.hid hon
    have Hbr := Lib.hid hbuf
    have Had := Lib.hid had
    clear hBr hon hbuf had
    by_cases hlt : k < m
    · obtain ⟨bd, r, rfl, hrk, hrow⟩ := hr.at_ hlt
      obtain ⟨A1, c1, B1, d1, h1, h2, h3, h4⟩ := hrow
      have h1 := Keeps.of_below HBr.out _ _ h1
      have h2 := Keeps.of_below HBr.out _ _ h2
      have Hr := Lib.hid hrk
      have hmem := List.mem_of_getElem? hrk
      have hq1 : (k + 1) * W ≤ m * W := Nat.mul_le_mul_right W hlt
      obtain ⟨q, hq⟩ : ∃ q, q = k * W := ⟨_, rfl⟩
      have hT2 : T = m * W := by rw [HT.out, HW.out]
      rw [Nat.succ_mul, ← hT2, ← hq] at hq1
      have hadr := Had.out
      rw [← hq] at hadr
      have HW2 := HW.out
      have HL2 := HL.out
      have hLe : 8 + n + q + n + 8 * me ≤ L := by omega
      obtain rfl := hadr (by omega)
      clear hadr
      have HKm := Lib.hid (Hkm.out r hmem)
      have HK8 := Lib.hid (Hk8.out r hmem)
      have Hq := Lib.hid hq
      rw [← hq]
      clear hrk hmem hT2 hq hq1 HW2 HL2
      have hal : Buf (wr.alloc (.cells #[.slice A1 r.key.length c1, .slice B1 r.m.length d1] 33)) g (spl (List.replicate L 0) 0 (headB cs me m ++ (l.take k).flatMap rowB)) := (Below.heap_alloc _ _ _ hgr).trans Hbr.out
      have HAl := Lib.hid hal
      have hon1 := (Only.refl g wr).of_alloc (.cells #[.slice A1 r.key.length c1, .slice B1 r.m.length d1] 33)
      have Hon1 := Lib.hid hon1
      have hpl : (headB cs me m ++ (l.take k).flatMap rowB).length = 8 + n + q := by
        rw [List.length_append, headB_len, hl.len, rows_len (W := W) (fun r' h => by have := Hkm.out r' (List.mem_of_mem_take h); rw [HW.out]; omega), List.length_take, hr.1, Nat.min_eq_left hk, Hq.out]
      have Hpl := Lib.hid hpl
      have hsl : (spl (List.replicate L 0) 0 (headB cs me m ++ (l.take k).flatMap rowB)).length = L := by rw [spl_len (by rw [Hpl.out, List.length_replicate]; omega), List.length_replicate]
      have Hsl := Lib.hid hsl
      have hbw : Below w.heap.size w (wr.alloc (.cells #[.slice A1 r.key.length c1, .slice B1 r.m.length d1] 33)) := HBr.out.alloc (by omega) _
      have Hbw := Lib.hid hbw
      clear hal hon1 hpl hsl hbw
      go_wp2_with fail
      refine (putAll8 g (8 + n + q) (L - (8 + n + q)) _ r.key A1 _ c1 w _ Hbw.out hgz h3 HAl.out (by rw [Hsl.out]; omega) (by have := HKm.out; omega) (by rw [Hsl.out]; omega) (fun x hx => by have := HK8.out x hx; omega)).mono ?_
      intro e w5 h
      obtain ⟨ad, rfl, had, hb5, ho5⟩ := h.out ((flat_len (be 1) 1 (by intro x; exact be_len _ _) _).trans (Nat.one_mul _))
      have f1 : w5.cell? ⟨wr.heap.size, 1, none⟩ = some (.slice B1 r.m.length d1) := ho5.box hgr 1
      have hw5 := Hbw.out.trans (ho5.below hgz Hbw.out.size)
      have e5 := spl_behind (bs := List.replicate L 0) (off := 0) (k := 8 + n + q) (r.key.flatMap (be 1)) Hpl.out (by rw [List.length_replicate]; omega)
      rw [Nat.zero_add] at e5
      rw [e5] at hb5
      have hl5 : (headB cs me m ++ (l.take k).flatMap rowB ++ r.key.flatMap (be 1)).length = 8 + n + q + n := by
        rw [List.length_append, Hpl.out, flat_len (be 1) 1 (by intro x; exact be_len _ _), Nat.one_mul, HKm.out.1]
      have hs5 : (spl (List.replicate L 0) 0 (headB cs me m ++ (l.take k).flatMap rowB ++ r.key.flatMap (be 1))).length = L := by
        rw [spl_len (by rw [hl5, List.length_replicate]; omega), List.length_replicate]
      rw [HKm.out.1] at had ⊢
      have Hl5 := Lib.hid hl5
      have Hs5 := Lib.hid hs5
      have Had := Lib.hid had
      have Ho5 := Lib.hid ho5
      have Hw5 := Lib.hid hw5
      have Hb5 := Lib.hid hb5
      clear had hb5 ho5 hw5 hs5 e5 hl5
      go_wp2_with fail
      by_cases hme : me = 0
      · have hm0 : r.m.length = 0 := HKm.out.2.trans hme
        have hnil := List.eq_nil_of_length_eq_zero hm0
        rw [hm0]
        have Hnil := Lib.hid hnil
        have Hme := Lib.hid hme
        clear hm0 hnil hme
        refine (putAll64_none _ _ _ _ _ _).mono ?_
        rintro e w6 ⟨rfl, rfl⟩
        go_wp2
        refine ⟨⟨k + 1, by omega, by go_num, ⟨ad, ?_, ?_⟩, ?_, ?_⟩, by simp [intOf]; omega⟩
        · rw [Nat.succ_mul k W, ← Hq.out, HW.out, Hme.out, show L - (8 + n + (q + (n + 8 * 0))) = L - (8 + n + q) - n from by omega]
        · rw [Nat.succ_mul k W, ← Hq.out, HW.out, Hme.out]
          exact fun h => (Had.out (by omega)).trans (by rw [show 8 + n + q + n = 8 + n + (q + (n + 8 * 0)) from by omega])
        · rw [take_snoc Hr.out, List.flatMap_append, List.flatMap_singleton, rowB, Hnil.out, List.flatMap_nil, List.append_nil, ← List.append_assoc]
          exact Hb5.out
        · exact Hon.out.trans (Hon1.out.trans Ho5.out)
      · obtain rfl := Had.out (by omega)
        refine (putAll64 g _ _ _ r.m B1 _ d1 w w5 Hw5.out hgz h4 Hb5.out (by rw [Hs5.out]; omega) (by have := HKm.out.2; omega) (by rw [Hs5.out]; omega)).mono ?_
        intro e w6 h
        obtain ⟨ad, rfl, had, hb6, ho6⟩ := h.out (flat_len be64 8 (by intro x; exact be_len _ _) _)
        have e6 := spl_behind (bs := List.replicate L 0) (off := 0) (k := 8 + n + q + n) (r.m.flatMap be64) Hl5.out (by rw [List.length_replicate]; omega)
        rw [Nat.zero_add] at e6
        rw [e6] at hb6
        rw [HKm.out.2] at had ⊢
        have Had6 := Lib.hid had
        have Ho6 := Lib.hid ho6
        have Hb6 := Lib.hid hb6
        clear had hb6 ho6 e6
        go_wp2
        refine ⟨⟨k + 1, by omega, by go_num, ⟨ad, ?_, ?_⟩, ?_, ?_⟩, by simp [intOf]; omega⟩
        · rw [Nat.succ_mul k W, ← Hq.out, HW.out, show L - (8 + n + (q + (n + 8 * me))) = L - (8 + n + q) - n - 8 * me from by omega]
        · rw [Nat.succ_mul k W, ← Hq.out, HW.out]
          exact fun h => (Had6.out (by omega)).trans (by rw [show 8 + n + q + n + 8 * me = 8 + n + (q + (n + 8 * me)) from by omega])
        · rw [take_snoc Hr.out, List.flatMap_append, List.flatMap_singleton, rowB, ← List.append_assoc, ← List.append_assoc]
          exact Hb6.out
        · exact Hon.out.trans (Hon1.out.trans (Ho5.out.trans Ho6.out))
    · go_wp2
      go_ret
      obtain rfl : k = m := by omega
      have hb := Hbr.out
      have hlen : l.length = k := hr.1
      rw [List.take_of_length_le (Nat.le_of_eq hlen), spl_full (by rw [List.length_replicate, ← HLen.out, encB, hlen])] at hb
      exact ⟨g, by rw [HLen.out]; rfl, by rw [encB, hlen]; exact hb, HBr.out, hgz⟩
end Go.Proofs.Ytejjbbomkedpcaa
