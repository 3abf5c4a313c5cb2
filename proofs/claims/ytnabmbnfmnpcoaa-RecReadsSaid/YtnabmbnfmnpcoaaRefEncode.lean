/- The walk of the document's own Encode (reference): it returns the bytes that the plain function gives. -/
import Derived.Test.YtnabmbnfmnpcoaaBytes
import Derived.Lib.SlBytesConst
import Derived.ArgAppend
namespace Go.Proofs.Ytnabmbnfmnpcoaa
open Go.RowKit
theorem be8_64 (x : Int) : be 8 x = be64 x := by
  simp [be64, be, List.range_succ]
  omega
theorem be1_one (x : Int) : be 1 x = [x % 256] := by simp [be, List.range_succ]
theorem flat_snoc {α : Type} {f : α → List Int} {l : List α} {k : Nat} {x : α} (h : l[k]? = some x) : (l.take (k + 1)).flatMap f = (l.take k).flatMap f ++ f x := by
  rw [take_snoc h, List.flatMap_append]; simp
/-- A row of bytes of the call's own, from block B on. -/
def BytesW (w : World) (B : Nat) (v : Value) (xs : List Int) : Prop := w.ownsRow B 5 1 v xs.length (bytesV xs)
/-- What stands ahead of row number k, and so much of it. -/
def encTo (cs : List Int) (me : Int) (l : List Fact) (k : Nat) : List Int := headB cs me l.length ++ (l.take k).flatMap rowB
theorem encTo_len {cs : List Int} {me : Int} {l : List Fact} (k : Nat) (hn : cs.length ≤ 4) (hl : l.length ≤ 300) (hr : ∀ r ∈ l, r.key.length ≤ 4 ∧ r.m.length ≤ 2) : (encTo cs me l k).length ≤ 6012 := by
  have h : ∀ (t : List Fact), (∀ r ∈ t, r.key.length ≤ 4 ∧ r.m.length ≤ 2) → (t.flatMap rowB).length ≤ 20 * t.length := by
    intro t
    induction t with
    | nil => intro _; simp
    | cons r t ih =>
      intro hr
      have h1 := hr r (by simp)
      have h2 := ih fun x hx => hr x (by simp [hx])
      rw [List.flatMap_cons, List.length_append, rowB_len, List.length_cons]
      omega
  have h1 := h (l.take k) fun r hr2 => hr r (List.mem_of_mem_take hr2)
  have h2 : (l.take k).length ≤ l.length := List.length_take_le' _ _
  rw [encTo, List.length_append, headB_len]
  omega
theorem encB_le {cs : List Int} {me : Int} {l : List Fact} (hn : cs.length ≤ 4) (hl : l.length ≤ 300) (hr : ∀ r ∈ l, r.key.length ≤ 4 ∧ r.m.length ≤ 2) : (encB cs me l).length ≤ 6012 := by
  have := encTo_len (cs := cs) (me := me) (l := l) l.length hn hl hr
  rwa [encTo, List.take_of_length_le (Nat.le_refl _)] at this
theorem byte_in (w : World) (B : Nat) (v : Value) (xs : List Int) (x : Int) (h : BytesW w B v xs) (hn : xs.length ≤ 1000000) (hB : B ≤ w.heap.size) :
    ∃ v' w', (Builtin.append_ #[36, 36] 36 #[v, .slice (some ⟨w.heap.size, 0, none⟩) 1 1]).run Try.prog (w.alloc (.cells #[.int .u8 (x % 256)] 5)) = .ok v' w' ∧ BytesW w' B v' (xs ++ be 1 x) ∧ Below B w w' := by
  rw [be1_one]
  exact append_byte w B v xs (x % 256) w.heap.size rfl h hn hB
set_option maxRecDepth 100000 in
set_option maxHeartbeats 4000000 in
theorem rEncode_any (A D : Option Addr) (n c m d : Nat) (cs : List Int) (me : Int) (l : List Fact) (w : World) (hA : Nums .i64 w A n cs) (hD : Facts w D m l) (hn : n ≤ 4) (hm : m ≤ 300) (hme : inK .i64 me) (hr : ∀ r ∈ l, r.key.length ≤ 4 ∧ r.m.length ≤ 2) :
    Calls Try.prog 14 #[.agg #[.slice A n c, .int .i64 me], .slice D m d] w fun e w' => ∃ v, e = .returned v ∧ BytesW w' w.heap.size v (encB cs me l) ∧ Below w.heap.size w w' := by
  obtain ⟨hme1, hme2⟩ := hme
  obtain ⟨i0, hi, hz0, hz1, hz2⟩ := info_parts infoByte
  have hcl : cs.length = n := hA.len
  have hll : l.length = m := hD.1
  have kc : (convert 36 36 (.slice (some ⟨w.heap.size + 1, 0, none⟩) 4 4)).run Try.prog ((w.alloc (.cells #[.slice A n c, .int .i64 me] 24)).alloc (.cells #[.int .u8 67, .int .u8 85, .int .u8 66, .int .u8 49] 5)) =
      .ok (.slice (some ⟨w.heap.size + 1, 0, none⟩) 4 4) ((w.alloc (.cells #[.slice A n c, .int .i64 me] 24)).alloc (.cells #[.int .u8 67, .int .u8 85, .int .u8 66, .int .u8 49] 5 (4, 5))) := by
    have := Go.Lib.run_convert_bytes_const (P := Try.prog) (w.alloc (.cells #[.slice A n c, .int .i64 me] 24)) 36 5 #[.int .u8 67, .int .u8 85, .int .u8 66, .int .u8 49] 4 4 Try.underlying36 Try.underlying5
    rwa [show (w.alloc (.cells #[.slice A n c, .int .i64 me] 24)).heap.size = w.heap.size + 1 from by simp] at this
  obtain ⟨v1, w1, hrun1, ho1, hg1⟩ := run_append_arg_grows (P := Try.prog) (((w.alloc (.cells #[.slice A n c, .int .i64 me] 24)).alloc (.cells #[.int .u8 67, .int .u8 85, .int .u8 66, .int .u8 49] 5 (4, 5))).alloc (.cells #[.int .u8 (n : Int)] 5)) 36 36 5 i0 (.int .u8 0) 1 1 Try.underlying36 hi hz0 hz1 hz2 rfl (by omega)
    ⟨w.heap.size + 1, 0, none⟩ 4 4 [.int .u8 67, .int .u8 85, .int .u8 66, .int .u8 49] rfl
    (fun j u hu => by
      rw [add0, cell_of_row _ (w.heap.size + 1) j #[.int .u8 67, .int .u8 85, .int .u8 66, .int .u8 49] 5 (4, 5) ((Below.heap_alloc _ _ _ (by simp)).trans (heap_new _ _ _ (by simp)))]
      simpa using hu)
    ⟨w.heap.size + 1 + 1, 0, none⟩ 1 1 [.int .u8 (n : Int)] rfl
    (fun j u hu => by
      rw [add0, cell_of_row _ (w.heap.size + 1 + 1) j #[.int .u8 (n : Int)] 5 (0, 0) (heap_new _ _ _ (by simp))]
      simpa using hu)
    (by omega) (by simp [maxLen]) (by omega)
  obtain ⟨B, hB⟩ : ∃ B, B = w.heap.size + 1 := ⟨_, rfl⟩
  obtain ⟨wb, hwb⟩ : ∃ wb, wb = w.alloc (.cells #[.slice A n c, .int .i64 me] 24) := ⟨_, rfl⟩
  have hwz : wb.heap.size = B := by rw [hwb, hB]; simp
  have hb0 : Below w.heap.size w wb := by rw [hwb]; exact (Below.refl _ _).alloc (Nat.le_refl _) _
  have hbw : ∀ W, Below B wb W → Below w.heap.size w W := fun W hb => hb0.trans (hb.mono (by omega))
  have hc0 : ∀ W, Below B wb W → W.cell? ⟨w.heap.size, 0, none⟩ = some (.slice A n c) := fun W hb => by rw [hwb] at hb; exact box_at hb (by omega) 0
  have hc1 : ∀ W, Below B wb W → W.cell? ⟨w.heap.size, 1, none⟩ = some (.int .i64 me) := fun W hb => by rw [hwb] at hb; exact box_at hb (by omega) 1
  have hBz : ∀ W, Below B wb W → B ≤ W.heap.size := fun W hb => by have := hb.size; omega
  have hb1 : Below B wb w1 := by
    rw [← hwb] at hg1
    refine (((Below.refl B wb).alloc (by omega) _).alloc (by simp; omega) _).grown hg1 (by simp; omega) (fun k hk => by cases hk)
  have hv1 : BytesW w1 B v1 ([67, 85, 66, 49] ++ be 1 n) := by
    have h := ho1.mono (base' := B) (by simp [hB])
    rw [be1_one, show (n : Int) % 256 = n by omega]
    exact h
  have Hrun1 := Lib.hid hrun1
  have HA := Lib.hid hA
  have HD := Lib.hid hD
  have HB := Lib.hid hB
  have Hwb := Lib.hid hwb
  have Hwz := Lib.hid hwz
  have Hbw := Lib.hid hbw
  have Hc0 := Lib.hid hc0
  have Hc1 := Lib.hid hc1
  have HBz := Lib.hid hBz
  have Hb1 := Lib.hid hb1
  have Hv1 := Lib.hid hv1
  have Hcl := Lib.hid hcl
  have Hll := Lib.hid hll
  have Hr := Lib.hid hr
  have Hlen := Lib.hid (fun k => encTo_len (cs := cs) (me := me) (l := l) k (by omega) (by omega) hr)
  clear hrun1 ho1 hg1 hA hD hB hwb hwz hb0 hbw hc0 hc1 hBz hb1 hv1 hcl hll hr hi hz0 hz1 hz2
  go_enter Try.func14, Try.ntmps14
  go_wp2_with (at_builtin; have _t := Hrun1; refine wpList_append_eq rfl (.tmp 11) (.tmp 16) 36 rfl _ _ _ _ rfl rfl Hrun1.out ?_; clear _t Hrun1)
  clear kc
  go_loopw [5, 6] (fun v i wr => ∃ k : Nat, k ≤ n ∧ i = .int .i64 k ∧ BytesW wr B v ([67, 85, 66, 49] ++ be 1 n ++ (cs.take k).flatMap (be 1)) ∧ Below B wb wr) (fun _ i _ => n - (intOf i).toNat)
  case atStart => exact ⟨0, by omega, rfl, by simpa using Hv1.out, Hb1.out⟩
  case round =>
    obtain ⟨k, hk, rfl, hv, hb⟩ := hrel
    have c0 := Hc0.out wr hb
    have c1 := Hc1.out wr hb
    have hz := HBz.out wr hb
    have Hv := Lib.hid hv
    have Hb := Lib.hid hb
    clear hv hb
    by_cases hlt : k < n
    · obtain ⟨ad, x, rfl, hx, ⟨hx1, hx2⟩, hxc⟩ := (HA.out.keep (Keeps.of_below (Hbw.out wr Hb.out))).at_ hlt
      obtain ⟨v', w', hrun, hv', hb'⟩ := byte_in wr B _ _ x Hv.out (by simp [flat_len (be 1) 1 (be_len 1), be_len]; omega) hz
      rw [List.append_assoc, ← flat_snoc hx] at hv'
      have Hv' := Lib.hid hv'
      have Hb' := Lib.hid (Hb.out.trans hb')
      have Hrun := Lib.hid hrun
      clear hrun hv' hb' hx
      go_wp2_with (at_builtin; have _t := Hrun; refine wpList_append_eq rfl (.tmp 25) (.tmp 32) 36 rfl _ _ _ _ rfl rfl Hrun.out ?_; clear _t Hrun)
      exact ⟨⟨k + 1, by omega, by go_num, Hv'.out, Hb'.out⟩, by simp [intOf]; omega⟩
    · obtain rfl : k = n := by omega
      have hv := Hv.out
      rw [List.take_of_length_le (Nat.le_of_eq Hcl.out)] at hv
      have hln : ([67, 85, 66, 49] ++ be 1 (k : Int) ++ cs.flatMap (be 1)).length ≤ 9 := by
        simp [flat_len (be 1) 1 (be_len 1), be_len, Hcl.out]; omega
      obtain ⟨v2, w2, hrun2, hv2, hb2⟩ := byte_in wr B _ _ me hv (by omega) hz
      have hm64 : inK .i64 (m : Int) := by simp only [inK]; omega
      have hz2 := Nat.le_trans hz hb2.size
      have HT := Lib.hid (Two_any m w2 hm64)
      have Hv2 := Lib.hid hv2
      have Hb2 := Lib.hid (Hb.out.trans hb2)
      have Hrun2 := Lib.hid hrun2
      have Hln := Lib.hid hln
      clear hv hrun2 hv2 hb2 hm64 hln
      go_wp2_with (at_builtin; have _t := Hrun2; refine wpList_append_eq rfl (.tmp 34) (.tmp 38) 36 rfl _ _ _ _ rfl rfl Hrun2.out ?_; clear _t Hrun2)
      refine HT.out.mono ?_
      rintro e w3 ⟨u, rfl, hu, hb3⟩
      obtain ⟨v4, w4, hrun4, hv4, hb4⟩ := append_bytes w3 B w2.heap.size v2 u _ (be 2 m) (own_below Hv2.out hb3 (Nat.le_refl _)) (by rw [be_len]; exact hu) (by rw [be_len]; omega) (by have := Hln.out; rw [List.length_append, be_len, be_len]; omega) (Nat.le_trans hz2 hb3.size)
      have hv5 : BytesW w4 B v4 (encTo cs me l 0) := by
        have e : encTo cs me l 0 = [67, 85, 66, 49] ++ be 1 (k : Int) ++ cs.flatMap (be 1) ++ be 1 me ++ be 2 m := by
          rw [encTo, headB, Hcl.out, Hll.out]; simp
        rw [e]
        exact hv4
      have Hv5 := Lib.hid hv5
      have Hb5 := Lib.hid ((Hb2.out.trans (hb3.mono hz2)).trans hb4)
      have Hrun4 := Lib.hid hrun4
      clear hrun4 hv4 hb4 hv5 hu hb3
      go_wp2_with (at_builtin; have _t := Hrun4; refine wpList_append_eq rfl (.tmp 40) (.tmp 43) 36 rfl _ _ _ _ rfl rfl Hrun4.out ?_; clear _t Hrun4)
      clear Hv Hb c0 c1 hz HT Hv2 Hb2 Hln hlt hk hz2 Hv1 Hb1
      go_loopw [5, 7] (fun v i wr => ∃ j : Nat, j ≤ m ∧ i = .int .i64 j ∧ BytesW wr B v (encTo cs me l j) ∧ Below B wb wr) (fun _ i _ => m - (intOf i).toNat)
      case atStart => exact ⟨0, by omega, rfl, Hv5.out, Hb5.out⟩
      case round =>
        rename World => wj
        obtain ⟨j, hj, rfl, hv, hb⟩ := hrel
        have hz := HBz.out wj hb
        have Hv := Lib.hid hv
        have Hb := Lib.hid hb
        clear hv hb Hv5 Hb5
        by_cases hlj : j < m
        · obtain ⟨ad, r, rfl, hrk, hrow⟩ := HD.out.at_ hlj
          obtain ⟨hr1, hr2⟩ := Hr.out r (List.mem_of_getElem? hrk)
          obtain ⟨A1, c1, B1, d1, q1, q2, n1, n2⟩ := hrow
          obtain ⟨lk, hlk⟩ : ∃ x, x = r.key.length := ⟨_, rfl⟩
          obtain ⟨lm, hlm⟩ : ∃ x, x = r.m.length := ⟨_, rfl⟩
          rw [← hlk] at hr1 q1 n1
          rw [← hlm] at hr2 q2 n2
          have hQ1 : ∀ W, Below B wb W → W.cell? (ad.add (j * 2)) = some (.slice A1 lk c1) := fun W hb => (Keeps.of_below (Hbw.out W hb)) _ _ q1
          have hQ2 : ∀ W, Below B wb W → W.cell? ⟨(ad.add (j * 2)).block, (ad.add (j * 2)).off + 1, none⟩ = some (.slice B1 lm d1) := fun W hb => (Keeps.of_below (Hbw.out W hb)) _ _ q2
          have N1 := Lib.hid (fun W (hb : Below B wb W) => n1.keep (Keeps.of_below (Hbw.out W hb)))
          have N2 := Lib.hid (fun W (hb : Below B wb W) => n2.keep (Keeps.of_below (Hbw.out W hb)))
          have Q1 := Lib.hid hQ1
          have Q2 := Lib.hid hQ2
          have Hrk := Lib.hid hrk
          have Hlk := Lib.hid hlk
          have Hlm := Lib.hid hlm
          clear q1 q2 n1 n2 hQ1 hQ2 hrk hlk hlm
          go_wp2_with fail
          go_loopw [5, 8] (fun v i wr => ∃ e : Nat, e ≤ lk ∧ i = .int .i64 e ∧ BytesW wr B v (encTo cs me l j ++ (r.key.take e).flatMap (be 1)) ∧ Below B wb wr) (fun _ i _ => lk - (intOf i).toNat)
          case atStart => exact ⟨0, by omega, rfl, by simpa using Hv.out, Hb.out⟩
          case round =>
            rename World => we
            obtain ⟨e, he, rfl, hv, hb⟩ := hrel
            have q1 := Q1.out we hb
            have q2 := Q2.out we hb
            have hz := HBz.out we hb
            have Gv := Lib.hid hv
            have Gb := Lib.hid hb
            clear hv hb
            by_cases hle : e < lk
            · obtain ⟨kd, x, rfl, hx, ⟨hx1, hx2⟩, hxc⟩ := (N1.out we Gb.out).at_ hle
              obtain ⟨v', w', hrun, hv', hb'⟩ := byte_in we B _ _ x Gv.out (by have := Hlen.out j; rw [List.length_append, flat_len (be 1) 1 (be_len 1), List.length_take]; omega) hz
              rw [List.append_assoc, ← flat_snoc hx] at hv'
              have Hv' := Lib.hid hv'
              have Hb' := Lib.hid (Gb.out.trans hb')
              have Hrun := Lib.hid hrun
              clear hrun hv' hb' hx
              go_wp2_with (at_builtin; have _t := Hrun; refine wpList_append_eq rfl (.tmp 61) (.tmp 71) 36 rfl _ _ _ _ rfl rfl Hrun.out ?_; clear _t Hrun)
              exact ⟨⟨e + 1, by omega, by go_num, Hv'.out, Hb'.out⟩, by simp [intOf]; omega⟩
            · obtain rfl : e = lk := by omega
              have hv := Gv.out
              rw [List.take_of_length_le (Nat.le_of_eq Hlk.out.symm)] at hv
              have Fv := Lib.hid hv
              clear hv Gv
              go_wp2_with fail
              go_loopw [5, 9] (fun v i wr => ∃ f : Nat, f ≤ lm ∧ i = .int .i64 f ∧ BytesW wr B v (encTo cs me l j ++ r.key.flatMap (be 1) ++ (r.m.take f).flatMap be64) ∧ Below B wb wr) (fun _ i _ => lm - (intOf i).toNat)
              case atStart => exact ⟨0, by omega, rfl, by simpa using Fv.out, Gb.out⟩
              case round =>
                rename World => wf
                obtain ⟨f, hf, rfl, hv, hb⟩ := hrel
                have q1 := Q1.out wf hb
                have q2 := Q2.out wf hb
                have hz := HBz.out wf hb
                have Kv := Lib.hid hv
                have Kb := Lib.hid hb
                have hll : (encTo cs me l j ++ r.key.flatMap (be 1) ++ (r.m.take f).flatMap be64).length ≤ 7000 := by
                  have := Hlen.out j
                  rw [List.length_append, List.length_append, flat_len (be 1) 1 (be_len 1), flat_len be64 8 (fun x => be_len 8 _), List.length_take, ← Hlk.out]
                  omega
                have Hll2 := Lib.hid hll
                clear hv hb Fv Gb hll
                by_cases hlf : f < lm
                · obtain ⟨md, x, rfl, hx, hx2, hxc⟩ := (N2.out wf Kb.out).at_ hlf
                  have H8 := Lib.hid (Eight_any x wf hx2)
                  have Hx := Lib.hid hx
                  have Hx2 := Lib.hid hx2
                  clear hx hx2
                  go_wp2_with fail
                  refine H8.out.mono ?_
                  rintro e' w5 ⟨u, rfl, hu, hb5⟩
                  rw [be8_64] at hu
                  have h8 : (be64 x).length = 8 := be_len 8 _
                  obtain ⟨v6, w6, hrun6, hv6, hb6⟩ := append_bytes w5 B wf.heap.size _ u _ (be64 x) (own_below Kv.out hb5 (Nat.le_refl _)) (by rw [h8]; exact hu) (by omega) (by have := Hll2.out; omega) (Nat.le_trans hz hb5.size)
                  rw [List.append_assoc, ← flat_snoc Hx.out] at hv6
                  have Hv6 := Lib.hid hv6
                  have Hb6 := Lib.hid ((Kb.out.trans (hb5.mono hz)).trans hb6)
                  have Hrun6 := Lib.hid hrun6
                  have q1' := Q1.out w5 (Kb.out.trans (hb5.mono hz))
                  clear hrun6 hv6 hb6 hu hb5 h8
                  go_wp2_with (at_builtin; have _t := Hrun6; refine wpList_append_eq rfl (.tmp 83) (.tmp 92) 36 rfl _ _ _ _ rfl rfl Hrun6.out ?_; clear _t Hrun6)
                  exact ⟨⟨f + 1, by omega, by go_num, Hv6.out, Hb6.out⟩, by simp [intOf]; omega⟩
                · obtain rfl : f = lm := by omega
                  have hv := Kv.out
                  have e1 : encTo cs me l (j + 1) = encTo cs me l j ++ r.key.flatMap (be 1) ++ r.m.flatMap be64 := by
                    rw [encTo, flat_snoc Hrk.out, ← List.append_assoc, List.append_assoc _ (r.key.flatMap (be 1))]; rfl
                  rw [List.take_of_length_le (Nat.le_of_eq Hlm.out.symm), ← e1] at hv
                  have Nv := Lib.hid hv
                  clear hv e1 Kv
                  go_wp2
                  exact ⟨⟨j + 1, by omega, by go_num, Nv.out, Kb.out⟩, by simp [intOf]; omega⟩
        · obtain rfl : j = m := by omega
          have hv := Hv.out
          have e1 : encTo cs me l j = encB cs me l := by
            rw [encTo, encB, List.take_of_length_le (Nat.le_of_eq Hll.out)]
          rw [e1] at hv
          have Nv := Lib.hid hv
          have Nb := Lib.hid (Hbw.out wj Hb.out)
          have hwB : w.heap.size ≤ B := by have := HB.out; omega
          clear hv e1 Hv
          go_wp2
          go_ret
          exact ⟨_, rfl, World.ownsRow.mono Nv.out hwB, Nb.out⟩
theorem own_bytes {w : World} {B : Nat} {v : Value} {xs : List Int} (h : BytesW w B v xs) (hk : Bytes xs) : ∃ A c, v = .slice A xs.length c ∧ xs.length ≤ c ∧ c ≤ maxLen ∧ Nums .u8 w A xs.length xs := by
  obtain ⟨A, c, hv, hc, hm, hg⟩ := own_form h
  refine ⟨A, c, hv, hc, hm, rfl, hk, fun hn => ?_⟩
  obtain ⟨g, rfl, _, hcell⟩ := hg hn
  exact ⟨_, rfl, fun j x hx => by rw [add0]; exact hcell j _ (by simp [bytesV, hx])⟩
end Go.Proofs.Ytnabmbnfmnpcoaa
