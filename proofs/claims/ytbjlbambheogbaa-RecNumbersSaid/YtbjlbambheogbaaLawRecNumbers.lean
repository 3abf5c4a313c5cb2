/- The walk of the law RecNumbers: the Go text returns true, and writes nothing that was there. -/
import Derived.Test.YtbjlbambheogbaaLaw
namespace Go.Proofs.Ytbjlbambheogbaa
open Go.RowKit
def nRow (x : Int) : Fact := ⟨[0], [x, -9223372036854775808]⟩
set_option maxHeartbeats 4000000 in
theorem numbers_walk (a0 : Option Addr) (len0 cap0 : Nat) (z0 : List Int) (w : World) (w0 : IsRow .i64 w a0 len0 cap0 z0) :
    Calls Try.prog 12 #[.slice a0 len0 cap0] w fun e w' => e = .returned (.bool true) ∧ Below w.heap.size w w' := by
  obtain ⟨hx, hlc, hcap⟩ := w0.nums
  obtain ⟨xs, hxs⟩ : ∃ xs, xs = z0.take len0 := ⟨_, rfl⟩
  rw [← hxs] at hx
  clear hxs w0
  go_enter Try.func12, Try.ntmps12
  by_cases h100 : 100 < len0
  · go_wp2_with fail
    refine (known_any w).mono ?_
    rintro e w1 ⟨rfl, hb1⟩
    go_wp2
    go_ret
    exact ⟨rfl, hb1⟩
  · go_wp2_with fail
    refine (known_any w).mono ?_
    rintro e w1 ⟨rfl, hb1⟩
    have Hb1 := Lib.hid hb1
    clear hb1
    go_wp2_with fail
    obtain ⟨B, hB⟩ : ∃ B, B = w1.heap.size := ⟨_, rfl⟩
    rw [← hB]
    have a1 : Arr .i64 3 ((w1.alloc (.cells #[.int .i64 1] 3)).alloc (.cells #[.slice (some ⟨B, 0, none⟩) 1 1, .int .i64 2] 24)) B [1] := (Arr.new _ .i64 3 [1] B (by simp [hB])).alloc _
    have a2 : Box2 24 ((w1.alloc (.cells #[.int .i64 1] 3)).alloc (.cells #[.slice (some ⟨B, 0, none⟩) 1 1, .int .i64 2] 24)) (B + 1) (.slice (some ⟨B, 0, none⟩) 1 1) (.int .i64 2) := heap_new _ _ (B + 1) (by simp [hB])
    have a3 : Below w.heap.size w ((w1.alloc (.cells #[.int .i64 1] 3)).alloc (.cells #[.slice (some ⟨B, 0, none⟩) 1 1, .int .i64 2] 24)) := by
      have := Hb1.out.size
      exact (Hb1.out.alloc (by omega) _).alloc (by simp; omega) _
    have a4 : ((w1.alloc (.cells #[.int .i64 1] 3)).alloc (.cells #[.slice (some ⟨B, 0, none⟩) 1 1, .int .i64 2] 24)).heap.size = B + 2 := by simp [hB]
    have hwB : w.heap.size ≤ B := by rw [hB]; exact Hb1.out.size
    generalize (w1.alloc _).alloc _ = w2 at a1 a2 a3 a4 ⊢
    have A1 := Lib.hid a1
    have A2 := Lib.hid a2
    have A3 := Lib.hid a3
    have A4 := Lib.hid a4
    have Hx := Lib.hid hx
    clear a1 a2 a3 a4 hB Hb1 hx
    go_loopw [4, 5] (fun v i wr => ∃ k : Nat, k ≤ len0 ∧ i = .int .i64 k ∧ RowsV wr (B + 2) v ((xs.take k).map nRow) ∧ Below (B + 2) w2 wr) (fun _ i _ => len0 - (intOf i).toNat)
    case atStart => exact ⟨0, by omega, rfl, by simpa using RowsV.nil _ _, Below.refl _ _⟩
    case round =>
      obtain ⟨k, hk, rfl, hR, hb⟩ := hrel
      have Hb := Lib.hid hb
      have hBw : Below w.heap.size w wr := A3.out.trans (hb.mono (by omega))
      have HBw := Lib.hid hBw
      have hlk : ((xs.take k).map nRow).length = k := by rw [List.length_map, List.length_take, Hx.out.len]; exact Nat.min_eq_left hk
      have Hlk := Lib.hid hlk
      clear hb hBw hlk
      by_cases hlt : k < len0
      · obtain ⟨ad, x, rfl, hxk, ⟨hx1, hx2⟩, hxc⟩ := (Hx.out.keep (Keeps.of_below HBw.out)).at_ hlt
        have hxc2 : ∀ o, (wr.alloc o).cell? (ad.add k) = some (.int .i64 x) := fun o => ((Keeps.refl _).alloc o) _ _ hxc
        have Hxk := Lib.hid hxk
        have hz : B + 2 ≤ wr.heap.size := by have := Hb.out.size; rw [A4.out] at this; exact this
        have b1 : Below wr.heap.size wr ((wr.alloc (.cells #[.int .i64 0] 3)).alloc (.cells #[.int .i64 x, .int .i64 (-9223372036854775808)] 3)) := ((Below.refl _ _).alloc (Nat.le_refl _) _).alloc (by simp) _
        have o1 := own_below (own_lit wr (B + 2) 3 [.int .i64 0] wr.heap.size 1 1 rfl hz (by simp [maxLen]) rfl) ((Below.refl _ _).alloc (Nat.le_refl _) (.cells #[.int .i64 x, .int .i64 (-9223372036854775808)] 3)) (Nat.le_refl _)
        have o2 := own_lit (wr.alloc (.cells #[.int .i64 0] 3)) (B + 2) 3 [.int .i64 x, .int .i64 (-9223372036854775808)] (wr.heap.size + 1) 2 1 (by simp) (by omega) (by simp [maxLen]) rfl
        obtain ⟨v', w', hrun, hR', hb'⟩ := append_row _ (B + 2) _ _ (nRow x) (.slice (some ⟨wr.heap.size, 0, none⟩) 1 1) (.slice (some ⟨wr.heap.size + 1, 0, none⟩) 2 2) (wr.heap.size + 1 + 1) (by simp) (hR.below b1 (Nat.le_refl _)) ⟨o1, o2⟩ rfl rfl (by rw [Hlk.out]; omega) (by simp; omega)
        have HR' := Lib.hid hR'
        have Hb' := Lib.hid (Hb.out.trans ((b1.mono hz).trans hb'))
        have Hrun := Lib.hid hrun
        clear b1 o1 o2 hR hR' hb' hrun
        go_wp2_with (at_builtin; refine wpList_append_eq rfl (.tmp 22) (.tmp 30) 25 rfl _ _ _ _ rfl rfl Hrun.out ?_; clear Hrun)
        exact ⟨⟨k + 1, by omega, by go_num, by rw [take_snoc Hxk.out, List.map_append]; exact HR'.out, Hb'.out⟩, by simp [intOf]; omega⟩
      · obtain rfl : k = len0 := by omega
        have hall : (xs.take k).map nRow = xs.map nRow := by rw [List.take_of_length_le (Nat.le_of_eq Hx.out.len)]
        rw [hall] at hR Hlk
        have hsm : ∀ r ∈ xs.map nRow, (∀ x ∈ r.key, inK .i64 x) ∧ ∀ x ∈ r.m, inK .i64 x := by
          intro r hr
          obtain ⟨x, hx, rfl⟩ := List.mem_map.1 hr
          have := Hx.out.ok x hx
          refine ⟨by simp [nRow, inK], ?_⟩
          intro y hy
          simp [nRow] at hy
          rcases hy with rfl | rfl
          · exact this
          · simp [inK]
        obtain ⟨A, c, rfl, hc1, hc2, hF⟩ := hR.facts hsm
        have hs : Small (xs.map nRow) := fun r hr => (hsm r hr).2
        have ha : allRightB [1] 2 (xs.map nRow) = true := allRightB_yes (by decide) (by
          intro r hr
          obtain ⟨x, _, rfl⟩ := List.mem_map.1 hr
          simp [rightB, keysB, nRow])
        have c0 := (A2.out.below Hb.out (by omega)).cell0
        have c1 := (A2.out.below Hb.out (by omega)).cell1
        have hnc : Nums .i64 wr (some ⟨B, 0, none⟩) 1 [1] := (A1.out.below Hb.out (by omega)).nums (by simp [inK])
        have Hnc := Lib.hid hnc
        have HF := Lib.hid hF
        have Ha := Lib.hid ha
        have Hs := Lib.hid hs
        rw [Hlk.out]
        clear hall hR hsm hF hnc ha hs
        go_wp2_with fail
        refine (Encode_any _ _ 1 1 k c [1] 2 (xs.map nRow) wr Hnc.out (by rw [← Hlk.out]; exact HF.out) (by omega) Ha.out).mono ?_
        rintro e w3 ⟨g, rfl, hbuf, hb3, hg⟩
        have hnum : Nums .u8 w3 (some ⟨g, 0, none⟩) _ _ := Arr.nums (T := 5) hbuf (encB_bytes _ _ _)
        have hel : (encB [1] 2 (xs.map nRow)).length ≤ 10000 := by
          rw [encB, List.length_append, headB_len, rows_len (W := 17) (fun r hr => by obtain ⟨x, _, rfl⟩ := List.mem_map.1 hr; simp [nRow]), Hlk.out]
          simp
          omega
        have Hk3 := Lib.hid hb3
        have Hnum := Lib.hid hnum
        have c0 := ((A2.out.below Hb.out (by omega)).below hb3 (A2.out.below Hb.out (by omega)).lt).cell0
        have c1 := ((A2.out.below Hb.out (by omega)).below hb3 (A2.out.below Hb.out (by omega)).lt).cell1
        clear hbuf hb3 hnum
        go_wp2_with fail
        refine (Decode_any _ _ _ _ w3 Hnum.out (Nat.le_refl _) (by omega)).mono ?_
        intro e w4 hd
        obtain ⟨g4, h4, ps4, rfl, hn4, hf4, hb4, -, -, -, -⟩ := hd.back Ha.out (by rw [Hlk.out]; omega) Hs.out
        have hk4 := Hk3.out.trans (hb4.mono Hk3.out.size)
        have hbx4 := (A2.out.below Hb.out (by omega)).below hk4 (A2.out.below Hb.out (by omega)).lt
        have c0 := hbx4.cell0
        have c1 := hbx4.cell1
        have Hk4 := Lib.hid hk4
        have Hn4 := Lib.hid hn4
        have Hf4 := Lib.hid hf4
        have hl4 := hbx4.lt
        clear hd hn4 hf4 hb4 hk4 hbx4
        go_wp2_with fail
        have hw4 : Below w.heap.size w w4 := HBw.out.trans (Hk4.out.mono HBw.out.size)
        have hsame : sameB [1] 2 (xs.map nRow) [1] 2 (xs.map nRow) = true := by simp [sameB]
        have e1 : (xs.map nRow).length = xs.length := List.length_map _
        have hF5 := HF.out.keep (Keeps.of_below Hk4.out)
        have hf5 := Hf4.out
        rw [e1] at hF5 hf5
        rw [show k = xs.length from Hx.out.len.symm]
        refine (Same_any _ _ _ _ 1 1 xs.length c 1 1 xs.length xs.length [1] [1] 2 2 (xs.map nRow) (xs.map nRow) _ ((Hnc.out.keep (Keeps.of_below Hk4.out)).keep ((Keeps.refl _).alloc _)) (hF5.keep ((Keeps.refl _).alloc _)) (Hn4.out.keep ((Keeps.refl _).alloc _)) (hf5.keep ((Keeps.refl _).alloc _)) (by omega) (by have := Hx.out.len; omega) (by
          intro r hr
          obtain ⟨x, _, rfl⟩ := List.mem_map.1 hr
          simp [nRow])).mono ?_
        rintro e w5 ⟨rfl, hb5⟩
        rw [hsame]
        go_wp2
        go_ret
        exact ⟨rfl, (hw4.alloc hw4.size _).trans (hb5.mono (by have := hw4.size; simp; omega))⟩
end Go.Proofs.Ytbjlbambheogbaa
