/- Package tree: plans by hashing. -/
import Derived.Test.YtjllmladhjbnaaaDoorLeast
import Derived.Test.YtjllmladhjbnaaaDoorSoA
import Derived.Test.YtjllmladhjbnaaaDoorOth
namespace Go.Proofs.YtjllmladhjbnaaaDoor
open Go.RowKit Go.Shelf
attribute [local go_sem] Oper.semAt_some
set_option maxHeartbeats 2000000 in
theorem psize_any (A : Option Addr) (q c mm bs br : Nat) (cs : List Int) (n k : Int) (w : World) (h : FQ w A q mm cs n) (hx : Bx w bs #[.slice A q c, .int .i64 mm]) (hr : w.cell? ⟨br, 0, none⟩ = some (.int .i64 n)) (h1 : 0 ≤ k) (h2 : k ≤ fullB q) :
    Calls Tryd.prog 22 #[.int .i64 k, .pointer (some ⟨bs, 0, none⟩), .pointer (some ⟨br, 0, none⟩)] w fun e w' => e = .returned (.int .i64 (sizeB cs n k)) ∧ Below w.heap.size w w' := by
  have H := Lib.hid (size_any A q c mm cs n k w h.nums h.q1 h.q4 h.m2 h.c h.n0 h.n3 h1 h2 h.tab h.w1)
  have x0 : w.cell? ⟨bs, 0, none⟩ = some (.slice A q c) := hx 0 _ rfl
  have x1 : w.cell? ⟨bs, 1, none⟩ = some (.int .i64 mm) := hx 1 _ rfl
  clear h hx
  go_enter Tryd.func22, Tryd.ntmps22
  go_wp2_with fail
  refine H.out.mono ?_
  rintro e w1 ⟨rfl, hb1⟩
  have HB1 := Lib.hid hb1
  clear hb1
  go_wp2
  go_ret
  exact ⟨rfl, HB1.out⟩
theorem treeM_at {cs : List Int} {n : Int} {k : Nat} {s : Int} (h : (setsL cs.length)[k]? = some s) : (treeM cs n).take (k + 1) = (treeM cs n).take k ++ [treeE cs n s] := by
  rw [List.take_add_one]
  congr 1
  unfold treeM
  rw [List.getElem?_map, h]; rfl
set_option maxRecDepth 100000 in
set_option maxHeartbeats 8000000 in
theorem tplan_any (A : Option Addr) (q c mm : Nat) (cs : List Int) (n : Int) (w : World) (h : FQ w A q mm cs n) (hck : checkB cs (mm : Int) = true) :
    Calls Tryd.prog 12 #[.agg #[.slice A q c, .int .i64 mm], .int .i64 n] w fun e w' => ∃ v, e = .returned v ∧ OE w.heap.size w' v (treeM cs n) ∧ Below w.heap.size w w' := by
  have hcl := h.len
  have q1 := h.q1
  have q4 := h.q4
  have n0 := h.n0
  have n3 := h.n3
  have m2 := h.m2
  obtain ⟨wa, hwa⟩ : ∃ wa, wa = w.alloc (.cells #[.slice A q c, .int .i64 mm] 25) := ⟨_, rfl⟩
  have hba : Below w.heap.size w wa := by rw [hwa]; exact below_box w _
  have hxa : Bx wa w.heap.size #[.slice A q c, .int .i64 mm] := by rw [hwa]; exact Bx.new _ _ _
  have hza : wa.heap.size = w.heap.size + 1 := by rw [hwa]; simp
  obtain ⟨w0, hw0⟩ : ∃ w0, w0 = wa.alloc (.cells #[.int .i64 n] 3) := ⟨_, rfl⟩
  have hb0' : Below wa.heap.size wa w0 := by rw [hw0]; exact below_box wa _
  have hr0 : w0.cell? ⟨w.heap.size + 1, 0, none⟩ = some (.int .i64 n) := by rw [hw0, ← hza]; exact cell_new _ _ _
  have hx0 := hxa.keep (Keeps.of_below hb0')
  have hb0 : Below w.heap.size w w0 := hba.trans (hb0'.mono hba.size)
  have h0 := h.below hb0 (Nat.le_refl _)
  have HCh := Lib.hid (Check_any A q c cs (mm : Int) w0 h0.nums (by omega) (by constructor <;> omega))
  rw [hck] at HCh
  have HF := Lib.hid h
  have HB0 := Lib.hid hb0
  have HX0 := Lib.hid hx0
  have x0 : w0.cell? ⟨w.heap.size, 0, none⟩ = some (.slice A q c) := hx0 0 _ rfl
  have x1 : w0.cell? ⟨w.heap.size, 1, none⟩ = some (.int .i64 mm) := hx0 1 _ rfl
  have HR0 := Lib.hid hr0
  have HW0 := Lib.hid (hw0.trans (by rw [hwa]))
  obtain ⟨N, hN⟩ : ∃ N, N = 2 ^ q := ⟨_, rfl⟩
  have hsl := setsL_len q q1 q4
  have n16 := pow_16 q q4
  rw [← hN] at hsl n16
  have HNN := Lib.hid hN
  have HSL := Lib.hid hsl
  clear h hba hxa hza hb0' hr0 hx0 hb0 h0 hck hw0 hwa hN hsl
  go_enter Tryd.func12, Tryd.ntmps12
  go_wp2_with fail
  rw [← HW0.out]
  go_wp2_with fail
  refine HCh.out.mono ?_
  rintro e w1 ⟨rfl, hb1⟩
  have hb1w := HB0.out.trans (hb1.mono HB0.out.size)
  have HB1 := Lib.hid hb1w
  have hf1 := HF.out.below hb1w (Nat.le_refl _)
  have hx1 := HX0.out.keep (Keeps.of_below hb1)
  have HX1 := Lib.hid hx1
  have HR1 := Lib.hid ((Keeps.of_below hb1) _ _ HR0.out)
  have HS := Lib.hid (sets_any q w1 q1 q4 hf1.tab hf1.w1)
  have y0 : w1.cell? ⟨w.heap.size, 0, none⟩ = some (.slice A q c) := hx1 0 _ rfl
  have y1 : w1.cell? ⟨w.heap.size, 1, none⟩ = some (.int .i64 mm) := hx1 1 _ rfl
  have y2 := HR1.out
  clear hb1 hb1w hf1 hx1 x0 x1
  go_wp2_with fail
  refine HS.out.mono ?_
  rintro e w2 ⟨g, rfl, hn, hb2, hg⟩
  rw [← HNN.out] at hn ⊢
  have HN := Lib.hid hn
  have HB2 := Lib.hid (HB1.out.trans (hb2.mono HB1.out.size))
  have HX2 := Lib.hid (HX1.out.keep (Keeps.of_below hb2))
  have HR2 := Lib.hid ((Keeps.of_below hb2) _ _ HR1.out)
  clear hn hb2 y0 y1 y2
  go_wp2_with fail
  go_loopw [6, 27] (fun p i wr => ∃ k : Nat, i = .int .i64 k ∧ k ≤ N ∧ OE w2.heap.size wr p ((treeM cs n).take k) ∧ Below w2.heap.size w2 wr) (fun _ i _ => N - (intOf i).toNat)
  case atStart => exact ⟨0, rfl, Nat.zero_le _, OE.nil _ _, Below.refl _ _⟩
  case round =>
    obtain ⟨k, rfl, hk, hoe, hb⟩ := hrel
    rename World => wr
    have HOE := Lib.hid hoe
    have HB := Lib.hid hb
    have hz := hb.size
    clear hoe hb
    by_cases hkN : k < N
    · have kw := Keeps.of_below HB.out
      obtain ⟨ad, s, e1, hs, -, hcs⟩ := (HN.out.keep kw).at_ hkN
      injection e1 with e1
      subst e1
      rw [add0] at hcs
      obtain ⟨s0, s1⟩ := sets_bd q q1 q4 s (List.mem_of_getElem? hs)
      have hbw := HB2.out.trans (HB.out.mono HB2.out.size)
      have hf := HF.out.below hbw (Nat.le_refl _)
      have HFR := Lib.hid hf
      have HPA := Lib.hid (par_nums s q wr s0 s1 q1 q4 hf.tab hf.w1)
      have hxr := HX2.out.keep kw
      have HXR := Lib.hid hxr
      have HRR := Lib.hid (kw _ _ HR2.out)
      have z0 : wr.cell? ⟨w.heap.size, 0, none⟩ = some (.slice A q c) := hxr 0 _ rfl
      have hpb : ∀ x ∈ parL s q, 0 ≤ x ∧ x ≤ fullB q := fun x hx => sets_bd q q1 q4 x (par_lvl q q1 q4 s (List.mem_of_getElem? hs) x hx).2
      have HPB := Lib.hid hpb
      have hs' := hs
      rw [← hcl] at hs'
      have HTK := Lib.hid (treeM_at (n := n) hs')
      have hlen : ((treeM cs n).take k).length ≤ 16 := by rw [List.length_take]; omega
      have HLN := Lib.hid hlen
      have hln2 : (parL s q).length ≤ 100 := by unfold parL; rw [List.length_map]; have := dimsL_le (lackI s q); omega
      have hee : treeE cs n s = ⟨s, leastP (sizeB cs n) (parL s q), false⟩ := by unfold treeE; rw [hcl]
      have HEE := Lib.hid hee
      obtain ⟨M, hM⟩ : ∃ M, M = (parL s q).length := ⟨_, rfl⟩
      rw [← hM] at HPA hln2
      have k0 : (0 : Int) ≤ (k : Int) := by omega
      have k1 : (k : Int) < (N : Int) := by omega
      clear kw hs hs' hbw hf hxr hpb hlen hee hM
      go_wp2_with fail
      refine HPA.out.mono ?_
      rintro e w3 ⟨P, cp, rfl, hpn, -, hb3⟩
      have hb13 := HB.out.trans (hb3.mono hz)
      have HB13 := Lib.hid hb13
      have HOE3 := Lib.hid (HOE.out.below hb3)
      have HPN := Lib.hid hpn
      have HFR3 := Lib.hid (HFR.out.below hb3 (Nat.le_refl _))
      have HX3 := Lib.hid (HXR.out.keep (Keeps.of_below hb3))
      have HR3 := Lib.hid ((Keeps.of_below hb3) _ _ HRR.out)
      have HV := Lib.hid (values_any P M cp w3)
      clear hpn hb3 hb13 z0 hcs
      go_wp2_with fail
      refine HV.out.mono ?_
      rintro e w4 ⟨rfl, hw4⟩
      have hb34 : Below w3.heap.size w3 w4 := by rw [hw4]; exact below_box w3 _
      have hc4 : w4.cell? ⟨w3.heap.size, 0, none⟩ = some (.slice P M cp) := by rw [hw4]; exact cell_new _ _ _
      have k34 := Keeps.of_below hb34
      have HL := Lib.hid (tleast_any w3.heap.size 22 M cp #[.pointer (some ⟨w.heap.size, 0, none⟩), .pointer (some ⟨w.heap.size + 1, 0, none⟩)] P (parL s q) (sizeB cs n) w4 hc4 (HPN.out.keep k34) (by omega)
        (enters_of Tryd.func22 (by kernel_rfl) rfl) (fun x hx W hB => psize_any A q c mm w.heap.size (w.heap.size + 1) cs n x W ((HFR3.out.below hb34 (Nat.le_refl _)).below hB (Nat.le_refl _)) ((HX3.out.keep k34).keep (Keeps.of_below hB)) ((Keeps.of_below hB) _ _ (k34 _ _ HR3.out)) (HPB.out x hx).1 (HPB.out x hx).2))
      have HB14 := Lib.hid (HB13.out.trans (hb34.mono HB13.out.size))
      have HOE4 := Lib.hid (HOE3.out.below hb34)
      obtain ⟨lp, hlp⟩ : ∃ lp, lp = leastP (sizeB cs n) (parL s q) := ⟨_, rfl⟩
      have hee := HEE.out
      rw [← hlp] at HL hee
      have htk := HTK.out
      rw [hee] at htk
      have HTK2 := Lib.hid htk
      clear hw4 hb34 hc4 k34 hlp hee htk
      go_wp2_with fail
      refine HL.out.mono ?_
      rintro e w5 ⟨rfl, hb5⟩
      have hb15 := HB14.out.trans (hb5.mono HB14.out.size)
      obtain ⟨v', w6, hrun, hoe6, -, hb6⟩ := oe_push ⟨s, lp, false⟩ (HOE4.out.below hb5) (OI.nil w5.heap.size w5) (by have := HLN.out; omega) hb15.size
      have HB6 := Lib.hid (hb15.trans hb6)
      rw [← HTK2.out] at hoe6
      have HOE6 := Lib.hid hoe6
      have Hrun := Lib.hid hrun
      clear hb5 hb15 hrun hoe6 hb6
      go_wp2_with (at_builtin; have _t := Hrun; refine wpList_append_eq rfl (.tmp 37) (.tmp 43) 30 rfl _ _ _ _ rfl rfl Hrun.out ?_; clear _t Hrun)
      go_roundw
      case rel => exact ⟨k + 1, by go_num, by omega, HOE6.out, HB6.out⟩
      case measure => simp [intOf]; omega
    · obtain rfl : k = N := by omega
      have hall : (treeM cs n).take k = treeM cs n := List.take_of_length_le (by rw [tree_len, hcl, HSL.out]; omega)
      have hoe := HOE.out
      rw [hall] at hoe
      have HO2 := Lib.hid (hoe.mono HB2.out.size)
      have HBW := Lib.hid (HB2.out.trans (HB.out.mono HB2.out.size))
      clear hoe hall
      go_wp2
      go_ret
      exact ⟨_, rfl, HO2.out, HBW.out⟩
end Go.Proofs.YtjllmladhjbnaaaDoor
