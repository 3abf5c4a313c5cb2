/- The walk of the law RecReads: the Go text returns true, and writes nothing that was there. -/
import Derived.Test.YtnabmbnfmnpcoaaFactsLaw
import Derived.Test.YtnabmbnfmnpcoaaRefDec
import Derived.Test.YtnabmbnfmnpcoaaAnyEnd
import Derived.Test.YtnabmbnfmnpcoaaBothDec
import Derived.Test.YtnabmbnfmnpcoaaBothDec
import Derived.Test.YtnabmbnfmnpcoaaWithin
import Derived.Test.YtnabmbnfmnpcoaaRegion
import Derived.Deep.CutRange
import Derived.Deep.DeepCutAuto
import Derived.Deep.CutBlock
namespace Go.Proofs.Ytnabmbnfmnpcoaa
open Go.RowKit
set_option maxRecDepth 100000 in
set_option maxHeartbeats 8000000 in
theorem reads_walk (a0 : Int) (a1 : Option Addr) (len1 cap1 : Nat) (z1 : List Int) (a2 : Int) (a3 : Option Addr) (len3 cap3 : Nat) (z3 : List Int) (a4 : Option Addr) (len4 cap4 : Nat) (z4 : List Int) (a5 : Option Addr) (len5 cap5 : Nat) (z5 : List Int) (a6 : Int) (a7 : Option Addr) (len7 cap7 : Nat) (z7 : List Int) (a8 : Option Addr) (len8 cap8 : Nat) (z8 : List Int) (w : World)
    (h0 : inK .i64 a0) (w1 : IsRow .i64 w a1 len1 cap1 z1) (h2 : inK .i64 a2) (w3 : IsRow .i64 w a3 len3 cap3 z3) (w4 : IsRow .i64 w a4 len4 cap4 z4) (w5 : IsRow .u8 w a5 len5 cap5 z5) (h6 : inK .i64 a6) (w7 : IsRow .u8 w a7 len7 cap7 z7) (w8 : IsRow .u8 w a8 len8 cap8 z8) :
    Calls Try.prog 4 #[.int .i64 a0, .slice a1 len1 cap1, .int .i64 a2, .slice a3 len3 cap3, .slice a4 len4 cap4, .slice a5 len5 cap5, .int .i64 a6, .slice a7 len7 cap7, .slice a8 len8 cap8] w fun e w' => e = .returned (.bool true) ∧ Below w.heap.size w w' := by
  obtain ⟨n1, lc1, cm1⟩ := w1.nums
  obtain ⟨n3, lc3, cm3⟩ := w3.nums
  obtain ⟨n4, lc4, cm4⟩ := w4.nums
  obtain ⟨n5, lc5, cm5⟩ := w5.bytes
  have s7 : a7 = none → cap7 = 0 := fun e => by rcases w7 with ⟨_, _, h, _⟩ | ⟨x, h, _⟩; exact h; rw [h] at e; cases e
  have s8 : a8 = none → cap8 = 0 := fun e => by rcases w8 with ⟨_, _, h, _⟩ | ⟨x, h, _⟩; exact h; rw [h] at e; cases e
  obtain ⟨n7, lc7, cm7⟩ := w7.bytes
  obtain ⟨n8, lc8, cm8⟩ := w8.bytes
  have N1 := Lib.hid n1
  have N3 := Lib.hid n3
  have N4 := Lib.hid n4
  have N5 := Lib.hid n5
  have N7 := Lib.hid n7
  have N8 := Lib.hid n8
  have S7 := Lib.hid s7
  have S8 := Lib.hid s8
  have H6 := Lib.hid h6
  clear w1 w3 w4 w5 w7 w8 n1 n3 n4 n5 n7 n8 s7 s8 h6
  go_enter Try.func4, Try.ntmps4
  go_wp2_with fail
  refine (known_any w).mono ?_
  rintro e w1 ⟨rfl, hb1⟩
  have Hb1 := Lib.hid hb1
  clear hb1
  by_cases h100 : 100 < len7
  · go_wp2
    go_ret
    exact ⟨rfl, Hb1.out⟩
  by_cases h300 : 300 < len8
  · go_wp2
    go_ret
    exact ⟨rfl, Hb1.out⟩
  have d100 : decide (100 < len7) = false := by simp; omega
  have d300 : decide (300 < len8) = false := by simp; omega
  go_wp2_with fail
  refine (Facts_res a0 a2 a1 a3 len1 cap1 len3 cap3 _ _ w1 (N1.out.keep (Keeps.of_below Hb1.out)) (N3.out.keep (Keeps.of_below Hb1.out)) (by omega) (by omega) h0 h2).mono ?_
  rintro e w2 ⟨A, c, D, d, C, q, mm, m, cs, l, rfl, hF⟩
  have F := Lib.hid hF
  obtain ⟨k1, k2, k3, k4⟩ : 1 ≤ q ∧ q ≤ 4 ∧ mm ≤ 2 ∧ m ≤ 40 := ⟨hF.q1, hF.q4, hF.m2, hF.m40⟩
  have hx : Below w.heap.size w (w2.alloc (.cells #[.slice A q c, .int .i64 mm] 24)) := by
    have h1 := Hb1.out.trans (hF.below.mono Hb1.out.size)
    exact h1.alloc h1.size _
  obtain ⟨S, hS⟩ : ∃ S, S = w2.heap.size := ⟨_, rfl⟩
  have hbb := (Below.refl w2.heap.size w2).alloc (Nat.le_refl _) (.cells #[.slice A q c, .int .i64 mm] 24)
  have hbox := Box2.new w2 24 (.slice A q c) (.int .i64 mm)
  rw [← hS] at hbox
  have g3 : ∀ r ∈ l, r.key.length ≤ 4 ∧ r.m.length ≤ 2 := fun r hr => by have := hF.lens r hr; omega
  have hE := rEncode_any A D q c m d cs mm l (w2.alloc (.cells #[.slice A q c, .int .i64 mm] 24)) (hF.nums.keep (Keeps.of_below hbb)) (hF.facts.keep (Keeps.of_below hbb)) (by omega) (by omega) (by constructor <;> omega) g3
  have hL := encB_le (cs := cs) (me := (mm : Int)) (l := l) (by rw [hF.eq]; omega) (by rw [hF.em]; omega) g3
  have hL0 := hF.enc_len
  obtain ⟨xs, hxs⟩ : ∃ xs, xs = encB cs (mm : Int) l := ⟨_, rfl⟩
  have hxb : Bytes xs := by rw [hxs]; exact encB_bytes _ _ _
  rw [← hxs] at hE hL hL0
  obtain ⟨L, hLe⟩ : ∃ L, L = xs.length := ⟨_, rfl⟩
  rw [← hLe] at hL hL0
  have hL1 : 0 < L := by omega
  have hL2 : L ≤ 6012 := hL
  have HE := Lib.hid hE
  have HX := Lib.hid hx
  have Hxb := Lib.hid hxb
  have HLe := Lib.hid hLe
  have HS := Lib.hid hS
  have c0 := hbox.cell0
  have c1 := hbox.cell1
  clear hF hx hbb hE hxs hxb hLe hL0 hL g3 hbox hS
  go_wp2_with fail
  rw [← HS.out]
  generalize w2.alloc _ = w3 at HE HX c0 c1 ⊢
  refine HE.out.mono ?_
  rintro e w4 ⟨v4, rfl, hv4, hb4⟩
  obtain ⟨A4, c4, rfl, hc4, hm4, hn4⟩ := own_bytes hv4 Hxb.out
  rw [← HLe.out] at hc4 hn4 ⊢
  have HcL := Lib.hid hc4
  have HcL := Lib.hid hc4
  have HcL := Lib.hid hc4
  have HcL := Lib.hid hc4
  have HcL := Lib.hid hc4
  have HcL := Lib.hid hc4
  have HcL := Lib.hid hc4
  have HcL := Lib.hid hc4
  have HcL := Lib.hid hc4
  have HcL := Lib.hid hc4
  have HcL := Lib.hid hc4
  obtain ⟨A4', c4', hv4', _, _, hg4⟩ := own_form hv4
  obtain ⟨g, rfl, hgB, _⟩ := hg4 (by rw [← HLe.out]; exact hL1)
  injection hv4' with e1 _ e2
  subst e1
  clear e2 hg4
  obtain ⟨E, hEq⟩ : ∃ E, E = w4.heap.size := ⟨_, rfl⟩
  have hgE : g < E := by rw [hEq]; exact (hv4.lt g rfl).2
  have e0 := own_lit w4 E 5 [] E 0 1 hEq (by omega) (by simp [maxLen]) rfl
  have ba := (Below.refl w4.heap.size w4).alloc (Nat.le_refl _) (.cells #[] 5)
  obtain ⟨v5, w5, hrun, hv5, hb5⟩ := append_bytes (w4.alloc (.cells #[] 5)) E w3.heap.size _ _ [] xs e0 (own_below hv4 ba (Nat.le_refl _)) (by rw [← HLe.out]; exact hL1) (by rw [← HLe.out]; simp; omega) (by rw [hEq]; simp)
  rw [List.nil_append] at hv5
  obtain ⟨A6, cap6, hv6, hc6, hm6, hg6⟩ := own_form hv5
  obtain ⟨gz, hgz, hgzE, _⟩ := hg6 (by rw [← HLe.out]; exact hL1)
  subst hgz hv6
  rw [← HLe.out] at hv5 hc6 hrun
  have hgz5 : gz < w5.heap.size := (hv5.lt gz rfl).2
  have hb45 : Below w4.heap.size w4 w5 := ba.trans (by rw [← hEq]; exact hb5)
  have hn5b := hn4.keep (Keeps.of_below hb45)
  rw [hEq] at hrun
  have Hrun := Lib.hid hrun
  have Hv5 := Lib.hid hv5
  have Hn5b := Lib.hid hn5b
  have HB5 := Lib.hid (HX.out.trans ((hb4.mono HX.out.size).trans (hb45.mono (Nat.le_trans HX.out.size hb4.size))))
  have hwE : w.heap.size ≤ E := by rw [hEq]; exact Nat.le_trans HX.out.size hb4.size
  have Hhm := Lib.hid hm4
  clear hEq hrun hv5 hb5 hb45 ba e0 hn5b hv4 hb4 hg6 hn4 HX HE c0 c1 hm4 hc4
  go_upto_block 0 with (at_builtin; have _t := Hrun; refine wpList_append_eq rfl (.tmp 54) (.tmp 55) 36 rfl _ _ _ _ rfl rfl Hrun.out ?_; clear _t Hrun)
  go_cut [] (fun wy => ∃ ys, ys.length = L ∧ (∀ y ∈ ys, 0 ≤ y ∧ y ≤ 255) ∧ wy.ownsRow E 5 1 (.slice (some ⟨gz, 0, none⟩) L cap6) L (bytesV ys) ∧ Only gz w5 wy ∧ wy.heap.size = w5.heap.size)
  case first =>
    go_wp2_with fail
    have hyb : ∀ y ∈ xs, 0 ≤ y ∧ y ≤ 255 := Hxb.out
    have Hyb := Lib.hid hyb
    clear hyb
    go_loopw [23] (fun i wr => ∃ k : Nat, k ≤ 3 ∧ i = .int .i64 k ∧ ∃ ys, ys.length = L ∧ (∀ y ∈ ys, 0 ≤ y ∧ y ≤ 255) ∧ wr.ownsRow E 5 1 (.slice (some ⟨gz, 0, none⟩) L cap6) L (bytesV ys) ∧ Only gz w5 wr ∧ wr.heap.size = w5.heap.size) (fun i _ => 3 - (intOf i).toNat)
    case atStart => exact ⟨0, by omega, rfl, xs, HLe.out.symm, Hyb.out, Hv5.out, Only.refl _ _, rfl⟩
    case round =>
      rename World => wk
      obtain ⟨k, hk, rfl, ys, hyl, hyb, ho, hon, hsz⟩ := hrel
      have Ho := Lib.hid ho
      have Hon := Lib.hid hon
      have Hyl := Lib.hid hyl
      have Hyb2 := Lib.hid hyb
      have Hsz := Lib.hid hsz
      have hwk : Below w.heap.size w wk := HB5.out.trans (hon.below (by omega) HB5.out.size)
      have Hwk := Lib.hid hwk
      clear ho hon hyl hyb hsz hwk
      by_cases hgo : k < len4 ∧ k < len5 ∧ k < 3
      · obtain ⟨hl4, hl5, hl3⟩ := hgo
        obtain ⟨ad, x, rfl, -, hx0, hxw⟩ := N4.out.at_ hl4
        obtain ⟨bd, b, rfl, -, ⟨hb1, hb2⟩, hbw⟩ := N5.out.at_ hl5
        obtain ⟨j, hj⟩ : ∃ j : Nat, x % (L : Int) = j := Int.eq_ofNat_of_zero_le (Int.emod_nonneg x (by omega))
        have hjL : j < L := by have := Int.emod_lt_of_pos x (show (0 : Int) < L by omega); omega
        have wj := fun W => lwithin x L W hx0 (by omega) (by omega)
        rw [hj] at wj
        have Wj := Lib.hid wj
        obtain ⟨y, hy⟩ : ∃ y, ys[j]? = some y := ⟨_, List.getElem?_eq_getElem (by rw [Hyl.out]; exact hjL)⟩
        obtain ⟨hy1, hy2⟩ := Hyb2.out y (List.mem_of_getElem? hy)
        have hcell : wk.cell? ⟨gz, j, none⟩ = some (.int .u8 y) := by
          rw [World.ownsRow.cellAt Ho.out j (by omega)]
          simp [bytesV, hy]
        have hfr := World.ownsRow.frozenAt Ho.out j
        have hk0 : (0 : Int) ≤ (k : Int) := by omega
        have hk1 : (k : Int) < (len4 : Int) := by omega
        have hk2 : (k : Int) < (len5 : Int) := by omega
        have hj0 : (0 : Int) ≤ (j : Int) := by omega
        have hj1 : (j : Int) < (L : Int) := by omega
        have hxc := Keeps.of_below Hwk.out _ _ hxw
        have hbc := Keeps.of_below Hwk.out _ _ hbw
        have hfin : ∃ ys', ys'.length = L ∧ (∀ y ∈ ys', 0 ≤ y ∧ y ≤ 255) ∧ (wk.setCell ⟨gz, j, none⟩ (.int .u8 ((y + b) % 256))).ownsRow E 5 1 (.slice (some ⟨gz, 0, none⟩) L cap6) L (bytesV ys') ∧ Only gz w5 (wk.setCell ⟨gz, j, none⟩ (.int .u8 ((y + b) % 256))) ∧ (wk.setCell ⟨gz, j, none⟩ (.int .u8 ((y + b) % 256))).heap.size = w5.heap.size := by
          refine ⟨ys.set j ((y + b) % 256), by rw [List.length_set]; exact Hyl.out, fun z hz => ?_, ?_, Hon.out.setCell j _, by simp [World.setCell]; exact Hsz.out⟩
          · rcases List.mem_or_eq_of_mem_set hz with hz | rfl
            · exact Hyb2.out z hz
            · omega
          · have := (Ho.out.stored j (.int .u8 ((y + b) % 256))).1
            simpa [bytesV, List.map_set] using this
        have hxc' : (wk.setCell ⟨gz, j, none⟩ (.int .u8 ((y + b) % 256))).cell? (ad.add k) = some (.int .i64 x) := Keeps.of_below (below_setCell Hwk.out (show w.heap.size ≤ gz by omega) j _) _ _ hxw
        have hbc' : (wk.setCell ⟨gz, j, none⟩ (.int .u8 ((y + b) % 256))).cell? (bd.add k) = some (.int .u8 b) := Keeps.of_below (below_setCell Hwk.out (show w.heap.size ≤ gz by omega) j _) _ _ hbw
        have Fin := Lib.hid hfin
        have hwu : IntKind.u8.wrap (y + b) = (y + b) % 256 := IntKind.wrap_u8 _
        clear hy hfin hx0 hxw hbw hj wj
        have d3 : decide ((k : Int) < 3) = true := by simp; omega
        go_wp2_with fail
        refine wp_region_held_drew (S := fun W => W.cell? (ad.add k) = some (.int .i64 x) ∧ W.cell? (bd.add k) = some (.int .u8 b)) (by kernel_rfl) ⟨hxc, hbc⟩ (fun hHeld => ?_)
        refine wpAnyH_take (i := 0) (v := ?v0) rfl (by kernel_rfl) (by kernel_rfl) (by kernel_rfl) (fun _ _ _ h => h) (Or.inl ⟨by rfl, ?y0⟩) hHeld ?r0
        case y0 => (intro W hW; go_simp; first | done | with_reducible rfl)
        try simp only [List.getElem_toArray, List.getElem_cons_zero, Act.put, List.setIfInBounds_toArray, List.set_cons_zero, List.set_cons_succ]
        refine wpAnyH_take (i := 1) (v := ?v1) rfl (by kernel_rfl) (by kernel_rfl) (by kernel_rfl) (fun _ _ _ h => h) (Or.inl ⟨by rfl, ?y1⟩) hHeld ?r1
        case y1 => (intro W hW; go_simp; first | done | with_reducible rfl)
        try simp only [List.getElem_toArray, List.getElem_cons_succ, List.getElem_cons_zero, Act.put, List.setIfInBounds_toArray, List.set_cons_zero, List.set_cons_succ]
        refine wpAnyH_take (i := 2) (v := ?v2) rfl (by kernel_rfl) (by kernel_rfl) (by kernel_rfl) (fun _ _ _ h => h) (Or.inl ⟨by rfl, ?y2⟩) hHeld ?r2
        case y2 => (intro W hW; go_simp; first | done | with_reducible rfl)
        try simp only [List.getElem_toArray, List.getElem_cons_succ, List.getElem_cons_zero, Act.put, List.setIfInBounds_toArray, List.set_cons_zero, List.set_cons_succ]
        refine wpAnyH_take (i := 3) (v := ?v3) rfl (by kernel_rfl) (by kernel_rfl) (by kernel_rfl) (fun _ _ _ h => h) (Or.inl ⟨by rfl, ?y3⟩) hHeld ?r3
        case y3 => (intro W hW; go_simp; first | done | with_reducible rfl)
        try simp only [List.getElem_toArray, List.getElem_cons_succ, List.getElem_cons_zero, Act.put, List.setIfInBounds_toArray, List.set_cons_zero, List.set_cons_succ]
        refine wpAnyH_take (i := 4) (v := ?v4) rfl (by kernel_rfl) (by kernel_rfl) (by kernel_rfl) (fun _ _ _ h => h) (Or.inl ⟨by rfl, ?y4⟩) hHeld ?r4
        case y4 => (intro W hW; obtain ⟨q1, q2⟩ := hW; go_simp; first | done | with_reducible rfl)
        try simp only [List.getElem_toArray, List.getElem_cons_succ, List.getElem_cons_zero, Act.put, List.setIfInBounds_toArray, List.set_cons_zero, List.set_cons_succ]
        refine wpAnyH_take (i := 5) (v := ?v5) rfl (by kernel_rfl) (by kernel_rfl) (by kernel_rfl) (fun _ _ _ h => h) (Or.inl ⟨by rfl, ?y5⟩) hHeld ?r5
        case y5 => (intro W hW; go_simp; first | done | with_reducible rfl)
        try simp only [List.getElem_toArray, List.getElem_cons_succ, List.getElem_cons_zero, Act.put, List.setIfInBounds_toArray, List.set_cons_zero, List.set_cons_succ]
        refine wpAnyH_take (i := 6) (v := ?v6) rfl (by kernel_rfl) (by kernel_rfl) (by kernel_rfl) (fun _ _ _ h => h) (Or.inl ⟨by rfl, ?y6⟩) hHeld ?r6
        case y6 => (intro W hW; go_simp; first | done | with_reducible rfl)
        try simp only [List.getElem_toArray, List.getElem_cons_succ, List.getElem_cons_zero, Act.put, List.setIfInBounds_toArray, List.set_cons_zero, List.set_cons_succ]
        refine wpAnyH_take (i := 10) (v := ?v10) rfl (by kernel_rfl) (by kernel_rfl) (by kernel_rfl) (fun _ _ _ h => h) (Or.inl ⟨by rfl, ?y10⟩) hHeld ?r10
        case y10 => (intro W hW; go_simp; first | done | with_reducible rfl)
        try simp only [List.getElem_toArray, List.getElem_cons_succ, List.getElem_cons_zero, Act.put, List.setIfInBounds_toArray, List.set_cons_zero, List.set_cons_succ]
        refine wpAnyH_take (i := 11) (v := ?v11) rfl (by kernel_rfl) (by kernel_rfl) (by kernel_rfl) (fun _ _ _ h => h) (Or.inl ⟨by rfl, ?y11⟩) hHeld ?r11
        case y11 => (intro W hW; go_simp; first | done | with_reducible rfl)
        try simp only [List.getElem_toArray, List.getElem_cons_succ, List.getElem_cons_zero, Act.put, List.setIfInBounds_toArray, List.set_cons_zero, List.set_cons_succ]
        refine wpAnyH_take (i := 12) (v := ?v12) rfl (by kernel_rfl) (by kernel_rfl) (by kernel_rfl) (fun _ _ _ h => h) (Or.inl ⟨by rfl, ?y12⟩) hHeld ?r12
        case y12 => (intro W hW; go_simp; first | done | with_reducible rfl)
        try simp only [List.getElem_toArray, List.getElem_cons_succ, List.getElem_cons_zero, Act.put, List.setIfInBounds_toArray, List.set_cons_zero, List.set_cons_succ]
        refine wpAnyH_take (i := 13) (v := ?v13) rfl (by kernel_rfl) (by kernel_rfl) (by kernel_rfl) (fun _ _ _ h => h) (Or.inl ⟨by rfl, ?y13⟩) hHeld ?r13
        case y13 => (intro W hW; obtain ⟨q1, q2⟩ := hW; go_simp; first | done | with_reducible rfl)
        try simp only [List.getElem_toArray, List.getElem_cons_succ, List.getElem_cons_zero, Act.put, List.setIfInBounds_toArray, List.set_cons_zero, List.set_cons_succ]
        refine wpAnyH_ready (rs := [7]) (by kernel_rfl) (by simp) ?_
        refine AllReadyH.cons rfl (fun K hK => ?_) AllReadyH.nil
        go_simp
        refine (Wj.out _).mono ?_
        rintro e w6 ⟨rfl, rfl⟩
        go_wp2_with fail
        refine hK.out _ _ ?_ (fun hHeld => ?_)
        · exact ⟨hxc, hbc⟩
        clear hK K
        try simp only [List.getElem_toArray, List.getElem_cons_succ, List.getElem_cons_zero, Act.put, List.setIfInBounds_toArray, List.set_cons_zero, List.set_cons_succ]
        refine wpAnyH_take (i := 8) (v := ?v8) rfl (by kernel_rfl) (by kernel_rfl) (by kernel_rfl) (fun _ _ _ h => h) (Or.inl ⟨by rfl, ?y8⟩) hHeld ?r8
        case y8 => (intro W hW; go_simp; first | done | with_reducible rfl)
        try simp only [List.getElem_toArray, List.getElem_cons_succ, List.getElem_cons_zero, Act.put, List.setIfInBounds_toArray, List.set_cons_zero, List.set_cons_succ]
        refine wpAnyH_ready (rs := [9]) (by kernel_rfl) (by simp) ?_
        refine AllReadyH.cons rfl (fun K hK => ?_) AllReadyH.nil
        go_simp
        refine hK.out _ _ ?_ (fun hHeld => ?_)
        · exact ⟨hxc, hbc⟩
        clear hK K
        try simp only [List.getElem_toArray, List.getElem_cons_succ, List.getElem_cons_zero, Act.put, List.setIfInBounds_toArray, List.set_cons_zero, List.set_cons_succ]
        refine wpAnyH_take (i := 14) (v := ?v14) rfl (by kernel_rfl) (by kernel_rfl) (by kernel_rfl) (fun _ _ _ h => h) (Or.inl ⟨by rfl, ?y14⟩) hHeld ?r14
        case y14 => (intro W hW; go_simp; first | done | with_reducible rfl)
        try simp only [List.getElem_toArray, List.getElem_cons_succ, List.getElem_cons_zero, Act.put, List.setIfInBounds_toArray, List.set_cons_zero, List.set_cons_succ]
        refine wpAnyH_take (i := 15) (v := ?v15) rfl (by kernel_rfl) (by kernel_rfl) (by kernel_rfl) (fun _ _ _ h => h) (Or.inl ⟨by rfl, ?y15⟩) hHeld ?r15
        case y15 => (intro W hW; go_simp; first | done | with_reducible rfl)
        try simp only [List.getElem_toArray, List.getElem_cons_succ, List.getElem_cons_zero, Act.put, List.setIfInBounds_toArray, List.set_cons_zero, List.set_cons_succ]
        refine wpAnyH_ready (rs := [16]) (by kernel_rfl) (by simp) ?_
        refine AllReadyH.cons rfl (fun K hK => ?_) AllReadyH.nil
        go_simp
        refine hK.out _ _ ?_ (fun hHeld => ?_)
        · exact ⟨hxc', hbc'⟩
        clear hK K
        try simp only [List.getElem_toArray, List.getElem_cons_succ, List.getElem_cons_zero, Act.put, List.setIfInBounds_toArray, List.set_cons_zero, List.set_cons_succ]
        refine wpAnyH_done (by kernel_rfl) ?_ _
        go_wp2_with fail
        obtain ⟨ys', f1, f2, f3, f4, f5⟩ := Fin.out
        exact ⟨⟨k + 1, by omega, by go_num, ys', f1, f2, f3, ⟨f4.os, f4.tape, f4.output, f4.size, f4.block⟩, f5⟩, by simp [intOf]; omega⟩
      · have fin : ∃ ys, ys.length = L ∧ (∀ y ∈ ys, 0 ≤ y ∧ y ≤ 255) ∧ wk.ownsRow E 5 1 (.slice (some ⟨gz, 0, none⟩) L cap6) L (bytesV ys) ∧ Only gz w5 wk ∧ wk.heap.size = w5.heap.size := ⟨ys, Hyl.out, Hyb2.out, Ho.out, Hon.out, Hsz.out⟩
        have Fin := Lib.hid fin
        clear fin
        by_cases hl4 : k < len4
        · by_cases hl5 : k < len5
          · have hl3 : ¬ k < 3 := by omega
            clear hgo
            go_wp2
            go_meet
            exact Fin.out
          · clear hgo
            go_wp2
            go_meet
            exact Fin.out
        · clear hgo
          go_wp2
          go_meet
          exact Fin.out
  case rest =>
  obtain ⟨ys, hyl, hyb', hz, hon, hsz⟩ := hcut
  rename World => wz
  have Hz := Lib.hid hz
  have Hon := Lib.hid hon
  have Hyl := Lib.hid hyl
  have Hyb2 := Lib.hid hyb'
  have HBz := Lib.hid (HB5.out.trans (hon.below (show w.heap.size ≤ gz by omega) HB5.out.size))
  have hnb : Nums .u8 wz (some ⟨g, 0, none⟩) L xs := by
    have := Hn5b.out
    refine ⟨this.1, this.2.1, fun h => ?_⟩
    obtain ⟨ad, e, hc⟩ := this.2.2 h
    refine ⟨ad, e, fun j x hx => ?_⟩
    have h1 := hc j x hx
    injection e with e
    subst e
    rw [World.cell?_of_block (a := Addr.add ⟨g, 0, none⟩ j) (w := w5) (by rw [block_of_add]; exact hon.block g (by have := block_lt h1; rw [block_of_add] at this; exact this) (by omega))]
    exact h1
  have Hnb := Lib.hid hnb
  clear hz hon hyl hyb' hsz hnb Hv5 Hn5b HB5
  obtain ⟨kk, hkk⟩ : ∃ kk : Nat, a6 % ((L : Int) + 1) = kk := Int.eq_ofNat_of_zero_le (Int.emod_nonneg a6 (by omega))
  have hkL : kk ≤ L := by have := Int.emod_lt_of_pos a6 (show (0 : Int) < (L : Int) + 1 by omega); omega
  have wj := fun W => lwithin a6 ((L : Int) + 1) W H6.out (by omega) (by omega)
  rw [hkk] at wj
  have Wk := Lib.hid wj
  clear wj hkk
  go_upto_region 12 with (fail)
  go_cut [24] from 57 to 120 (fun r wx => r = .int .i64 kk ∧ wz = wx)
  case first =>
    go_wp2_with fail
    refine (Wk.out _).mono ?_
    rintro e w6 ⟨rfl, rfl⟩
    go_wp2
    go_meet
    exact ⟨rfl, rfl⟩
  case rest =>
  obtain ⟨rfl, hw⟩ := hcut
  subst hw
  rename World => wz
  go_upto_region 13 with (fail)
  go_cut [25] from 94 to 120 (fun r wx => ∃ G, r = .slice (some ⟨G, 0, none⟩) 6 6 ∧ (∀ i, i < 6 → ∃ v, wx.cell? ⟨G, i, none⟩ = some v ∧ BytesAt wx v) ∧ Below w.heap.size w wx)
  case first =>
    have hk0 : (0 : Int) ≤ (kk : Int) := by omega
    have hk1 : (kk : Int) ≤ (L : Int) := by omega
    have hk2 : (kk : Int) ≤ (c4 : Int) := by have := HcL.out; omega
    have hk3 : kk ≤ c4 := by have := HcL.out; omega
    refine wp_region_held_drew (S := fun _ => True) (by kernel_rfl) trivial (fun hHeld => ?_)
    refine wpAnyH_take (i := 0) (v := ?vb0) rfl (by kernel_rfl) (by kernel_rfl) (by kernel_rfl) (fun _ _ _ h => h) (Or.inl ⟨by rfl, ?yb0⟩) hHeld ?rb0
    case yb0 => (intro W hW; go_simp; first | done | with_reducible rfl)
    try simp only [List.getElem_toArray, List.getElem_cons_zero, Act.put, List.setIfInBounds_toArray, List.set_cons_zero, List.set_cons_succ]
    refine wpAnyH_take (i := 1) (v := ?vb1) rfl (by kernel_rfl) (by kernel_rfl) (by kernel_rfl) (fun _ _ _ h => h) (Or.inl ⟨by rfl, ?yb1⟩) hHeld ?rb1
    case yb1 => (intro W hW; go_simp; first | done | with_reducible rfl)
    try simp only [List.getElem_toArray, List.getElem_cons_succ, List.getElem_cons_zero, Act.put, List.setIfInBounds_toArray, List.set_cons_zero, List.set_cons_succ]
    refine wpAnyH_take (i := 2) (v := ?vb2) rfl (by kernel_rfl) (by kernel_rfl) (by kernel_rfl) (fun _ _ _ h => h) (Or.inl ⟨by rfl, ?yb2⟩) hHeld ?rb2
    case yb2 => (intro W hW; go_simp; first | done | with_reducible rfl)
    try simp only [List.getElem_toArray, List.getElem_cons_succ, List.getElem_cons_zero, Act.put, List.setIfInBounds_toArray, List.set_cons_zero, List.set_cons_succ]
    refine wpAnyH_take (i := 3) (v := ?vb3) rfl (by kernel_rfl) (by kernel_rfl) (by kernel_rfl) (fun _ _ _ h => h) (Or.inl ⟨by rfl, ?yb3⟩) hHeld ?rb3
    case yb3 => (intro W hW; go_simp; first | done | with_reducible rfl)
    try simp only [List.getElem_toArray, List.getElem_cons_succ, List.getElem_cons_zero, Act.put, List.setIfInBounds_toArray, List.set_cons_zero, List.set_cons_succ]
    refine wpAnyH_take (i := 5) (v := ?vb5) rfl (by kernel_rfl) (by kernel_rfl) (by kernel_rfl) (fun _ _ _ h => h) (Or.inl ⟨by rfl, ?yb5⟩) hHeld ?rb5
    case yb5 => (intro W hW; go_simp; first | done | with_reducible rfl)
    try simp only [List.getElem_toArray, List.getElem_cons_succ, List.getElem_cons_zero, Act.put, List.setIfInBounds_toArray, List.set_cons_zero, List.set_cons_succ]
    refine wpAnyH_take (i := 6) (v := ?vb6) rfl (by kernel_rfl) (by kernel_rfl) (by kernel_rfl) (fun _ _ _ h => h) (Or.inl ⟨by rfl, ?yb6⟩) hHeld ?rb6
    case yb6 => (intro W hW; go_simp; first | done | with_reducible rfl)
    try simp only [List.getElem_toArray, List.getElem_cons_succ, List.getElem_cons_zero, Act.put, List.setIfInBounds_toArray, List.set_cons_zero, List.set_cons_succ]
    refine wpAnyH_take (i := 7) (v := ?vb7) rfl (by kernel_rfl) (by kernel_rfl) (by kernel_rfl) (fun _ _ _ h => h) (Or.inl ⟨by rfl, ?yb7⟩) hHeld ?rb7
    case yb7 => (intro W hW; go_simp; first | done | with_reducible rfl)
    try simp only [List.getElem_toArray, List.getElem_cons_succ, List.getElem_cons_zero, Act.put, List.setIfInBounds_toArray, List.set_cons_zero, List.set_cons_succ]
    refine wpAnyH_take (i := 9) (v := ?vb9) rfl (by kernel_rfl) (by kernel_rfl) (by kernel_rfl) (fun _ _ _ h => h) (Or.inl ⟨by rfl, ?yb9⟩) hHeld ?rb9
    case yb9 => (intro W hW; go_simp; first | done | with_reducible rfl)
    try simp only [List.getElem_toArray, List.getElem_cons_succ, List.getElem_cons_zero, Act.put, List.setIfInBounds_toArray, List.set_cons_zero, List.set_cons_succ]
    refine wpAnyH_take (i := 11) (v := ?vb11) rfl (by kernel_rfl) (by kernel_rfl) (by kernel_rfl) (fun _ _ _ h => h) (Or.inl ⟨by rfl, ?yb11⟩) hHeld ?rb11
    case yb11 => (intro W hW; go_simp; first | done | with_reducible rfl)
    try simp only [List.getElem_toArray, List.getElem_cons_succ, List.getElem_cons_zero, Act.put, List.setIfInBounds_toArray, List.set_cons_zero, List.set_cons_succ]
    refine wpAnyH_take (i := 12) (v := ?vb12) rfl (by kernel_rfl) (by kernel_rfl) (by kernel_rfl) (fun _ _ _ h => h) (Or.inl ⟨by rfl, ?yb12⟩) hHeld ?rb12
    case yb12 => (intro W hW; go_simp; first | done | with_reducible rfl)
    try simp only [List.getElem_toArray, List.getElem_cons_succ, List.getElem_cons_zero, Act.put, List.setIfInBounds_toArray, List.set_cons_zero, List.set_cons_succ]
    refine wpAnyH_take (i := 13) (v := ?vb13) rfl (by kernel_rfl) (by kernel_rfl) (by kernel_rfl) (fun _ _ _ h => h) (Or.inl ⟨by rfl, ?yb13⟩) hHeld ?rb13
    case yb13 => (intro W hW; go_simp; first | done | with_reducible rfl)
    try simp only [List.getElem_toArray, List.getElem_cons_succ, List.getElem_cons_zero, Act.put, List.setIfInBounds_toArray, List.set_cons_zero, List.set_cons_succ]
    refine wpAnyH_take (i := 15) (v := ?vb15) rfl (by kernel_rfl) (by kernel_rfl) (by kernel_rfl) (fun _ _ _ h => h) (Or.inl ⟨by rfl, ?yb15⟩) hHeld ?rb15
    case yb15 => (intro W hW; go_simp; first | done | with_reducible rfl)
    try simp only [List.getElem_toArray, List.getElem_cons_succ, List.getElem_cons_zero, Act.put, List.setIfInBounds_toArray, List.set_cons_zero, List.set_cons_succ]
    refine wpAnyH_take (i := 18) (v := ?vb18) rfl (by kernel_rfl) (by kernel_rfl) (by kernel_rfl) (fun _ _ _ h => h) (Or.inl ⟨by rfl, ?yb18⟩) hHeld ?rb18
    case yb18 => (intro W hW; go_simp; first | done | with_reducible rfl)
    try simp only [List.getElem_toArray, List.getElem_cons_succ, List.getElem_cons_zero, Act.put, List.setIfInBounds_toArray, List.set_cons_zero, List.set_cons_succ]
    refine wpAnyH_take (i := 21) (v := ?vb21) rfl (by kernel_rfl) (by kernel_rfl) (by kernel_rfl) (fun _ _ _ h => h) (Or.inl ⟨by rfl, ?yb21⟩) hHeld ?rb21
    case yb21 => (intro W hW; go_simp; first | done | with_reducible rfl)
    try simp only [List.getElem_toArray, List.getElem_cons_succ, List.getElem_cons_zero, Act.put, List.setIfInBounds_toArray, List.set_cons_zero, List.set_cons_succ]
    have hnd : Nums .u8 wz.drew (some ⟨g, 0, none⟩) L xs := Hnb.out
    have hn7 : Nums .u8 wz.drew a7 len7 _ := N7.out.keep (Keeps.of_below HBz.out.drew)
    have hn8 : Nums .u8 wz.drew a8 len8 _ := N8.out.keep (Keeps.of_below HBz.out.drew)
    have e3 : SrcB wz.drew (.slice (if c4 = kk then some ⟨g, 0, none⟩ else some ⟨g, kk, none⟩) (L - kk) (c4 - kk)) := by
      refine ⟨_, _, _, xs.drop kk, rfl, ?_, by omega, fun h => by split at h <;> cases h⟩
      by_cases hc : c4 = kk
      · rw [if_pos hc]
        have hLk : L = kk := by have := HcL.out; omega
        rw [← hLk, Nat.sub_self, List.drop_eq_nil_of_le (Nat.le_of_eq hnd.len)]
        exact Nums.nil _ _ _
      · rw [if_neg hc]
        have := hnd.drop hkL
        rwa [add0] at this
    have E1 : Hid (SrcB wz.drew (.slice (some ⟨g, 0, none⟩) kk c4)) := Lib.hid ⟨_, _, _, _, rfl, hnd.take kk hkL, by omega, fun h => by cases h⟩
    have E2 : Hid (SrcB wz.drew (.slice a7 len7 cap7)) := Lib.hid ⟨_, _, _, _, rfl, hn7, by omega, S7.out⟩
    have E3 := Lib.hid e3
    have E4 : Hid (SrcB wz.drew (.slice a8 len8 cap8)) := Lib.hid ⟨_, _, _, _, rfl, hn8, by omega, S8.out⟩
    have E5 : Hid (SrcB wz.drew (.slice (some ⟨g, 0, none⟩) L c4)) := Lib.hid ⟨_, _, _, _, rfl, hnd, by omega, fun h => by cases h⟩
    have hcm4 : c4 ≤ 9223372036854775807 := by have := Hhm.out; simpa [maxLen] using this
    have hB0 : BytesAt wz.drew (.slice (some ⟨gz, 0, none⟩) L cap6) := by
      have := Hz.out
      obtain ⟨A', c', hv', h1', h2', h3'⟩ := own_bytes (xs := ys) (by unfold BytesW; rw [Hyl.out]; exact this) Hyb2.out
      rw [Hyl.out] at hv' h1' h3'
      exact ⟨_, _, _, _, hv', h3', h1', by simpa [maxLen] using h2'⟩
    have hB1 : BytesAt wz.drew (.slice (some ⟨g, 0, none⟩) kk c4) := ⟨_, _, _, _, rfl, hnd.take kk hkL, hk3, hcm4⟩
    have hB3 : BytesAt wz.drew (.slice a8 len8 cap8) := ⟨_, _, _, _, rfl, hn8, lc8, cm8⟩
    have HB0 := Lib.hid hB0
    have HB1 := Lib.hid hB1
    have HB3 := Lib.hid hB3
    have HBd : Hid (Below w.heap.size w wz.drew) := Lib.hid HBz.out.drew
    clear e3 hnd hn7 hn8 hB0 hB1 hB3 hcm4 hHeld Hz Hnb HBz Hon
    generalize wz.drew = wd at E1 E2 E3 E4 E5 HB0 HB1 HB3 HBd ⊢
    generalize (if c4 = kk then some (⟨g, 0, none⟩ : Addr) else some ⟨g, kk, none⟩) = P3 at E3 ⊢
    revert u98 u102 u104 u108 u110 u111 u113 u114 u116 u118 u117
    refine any13' _ wd.heap.size wd rfl (.slice (some ⟨g, 0, none⟩) kk c4) (.slice a7 len7 cap7) (.slice P3 (L - kk) (c4 - kk)) (.slice a8 len8 cap8) (.slice (some ⟨g, 0, none⟩) L c4) E1.out E2.out E3.out E4.out E5.out ?hr ?h4 ?h8 ?h10 ?h14 ?h16 ?h17 ?h19 ?h20 ?h22 ?h23 ?h24 ?hend _ _ ?hfu ?hli
    case hfu => rfl
    case hli => kernel_rfl
    case hr => kernel_rfl
    case h4 =>
      intro X w1 K hK
      refine wpOp_step rfl (fun K' hK' => ?_)
      have H := Lib.hid (hK' _ _ hK)
      clear hK hK'
      simp only [fr]
      go_simp
      exact H.out
    case h16 =>
      intro X w1 K hK
      refine wpOp_step rfl (fun K' hK' => ?_)
      have H := Lib.hid (hK' _ _ hK)
      clear hK hK'
      simp only [fr]
      go_simp
      exact H.out
    case h20 =>
      intro X w1 K hK
      refine wpOp_step rfl (fun K' hK' => ?_)
      have H := Lib.hid (hK' _ _ hK)
      clear hK hK'
      simp only [fr]
      go_simp
      exact H.out
    case h23 =>
      intro X w1 K hK
      refine wpOp_step rfl (fun K' hK' => ?_)
      have H := Lib.hid (hK' _ _ hK)
      clear hK hK'
      simp only [fr]
      go_simp
      exact H.out
    case h8 =>
      intro X w1 K v' w' hrun hK
      refine wpOp_step rfl (fun K' hK' => ?_)
      have H := Lib.hid (hK' _ _ hK)
      clear hK hK'
      rw [if_pos (by rfl)]
      exact oper_append_eq (.tmp 98) (.tmp 101) 36 rfl _ _ _ _ rfl rfl hrun H.out
    case h10 =>
      intro X w1 K v' w' hrun hK
      refine wpOp_step rfl (fun K' hK' => ?_)
      have H := Lib.hid (hK' _ _ hK)
      clear hK hK'
      rw [if_pos (by rfl)]
      exact oper_append_eq (.tmp 102) (.tmp 103) 36 rfl _ _ _ _ rfl rfl hrun H.out
    case h14 =>
      intro X w1 K v' w' hrun hK
      refine wpOp_step rfl (fun K' hK' => ?_)
      have H := Lib.hid (hK' _ _ hK)
      clear hK hK'
      rw [if_pos (by rfl)]
      exact oper_append_eq (.tmp 104) (.tmp 107) 36 rfl _ _ _ _ rfl rfl hrun H.out
    case h19 =>
      intro X w1 K v' w' hrun hK
      refine wpOp_step rfl (fun K' hK' => ?_)
      have H := Lib.hid (hK' _ _ hK)
      clear hK hK'
      rw [if_pos (by rfl)]
      exact oper_append_eq (.tmp 111) (.tmp 112) 36 rfl _ _ _ _ rfl rfl hrun H.out
    case h22 =>
      intro X w1 K v' w' hrun hK
      refine wpOp_step rfl (fun K' hK' => ?_)
      have H := Lib.hid (hK' _ _ hK)
      clear hK hK'
      rw [if_pos (by rfl)]
      exact oper_append_eq (.tmp 114) (.tmp 115) 36 rfl _ _ _ _ rfl rfl hrun H.out
    case h24 =>
      intro X w1 K v' w' hrun hK
      refine wpOp_step rfl (fun K' hK' => ?_)
      have H := Lib.hid (hK' _ _ hK)
      clear hK hK'
      rw [if_pos (by rfl)]
      exact oper_append_eq (.tmp 116) (.tmp 117) 36 rfl _ _ _ _ rfl rfl hrun H.out
    case h17 =>
      intro X w1 K v' w' hrun hK
      refine wpOp_step rfl (fun K' hK' => ?_)
      have H := Lib.hid (hK' _ _ hK)
      clear hK hK'
      simp only [fr]
      go_simp
      exact H.out
    case hend =>
      intro X w1 hb b4 b7 b10
      have hkw := Keeps.of_below hb
      have R0 := Lib.hid (HB0.out.keep hkw)
      have R1 := Lib.hid (HB1.out.keep hkw)
      have R2 := Lib.hid b4
      have R3 := Lib.hid (HB3.out.keep hkw)
      have R4 := Lib.hid b7
      have R5 := Lib.hid b10
      have RB := Lib.hid (HBd.out.trans (hb.mono HBd.out.size))
      obtain ⟨P4, p4, q4, _, e4, -⟩ := b4
      obtain ⟨P7, p7, q7, _, e7, -⟩ := b7
      obtain ⟨P10, p10, q10, _, e10, -⟩ := b10
      rw [e4] at R2
      rw [e7] at R4
      rw [e10] at R5
      clear hb hkw
      simp only [fr]
      refine wpAnyH_ready (rs := [25]) (by kernel_rfl) (by simp) ?_
      refine AllReadyH.cons rfl (fun K hK => ?_) AllReadyH.nil
      go_simp
      refine hK.out _ _ ?_ (fun hHeld => ?_)
      · exact trivial
      clear hK K
      try simp only [List.getElem_toArray, List.getElem_cons_succ, List.getElem_cons_zero, Act.put, List.setIfInBounds_toArray, List.set_cons_zero, List.set_cons_succ]
      refine wpAnyH_ready (rs := [26]) (by kernel_rfl) (by simp) ?_
      refine AllReadyH.cons rfl (fun K hK => ?_) AllReadyH.nil
      go_simp
      refine hK.out _ _ ?_ (fun hHeld => ?_)
      · exact trivial
      clear hK K
      try simp only [List.getElem_toArray, List.getElem_cons_succ, List.getElem_cons_zero, Act.put, List.setIfInBounds_toArray, List.set_cons_zero, List.set_cons_succ]
      refine wpAnyH_done (by kernel_rfl) ?_ _
      go_wp2_with fail
      go_meet
      exact ⟨_, rfl, six_at _ R0.out R1.out R2.out R3.out R4.out R5.out, RB.out.alloc RB.out.size _⟩
  case rest =>
  obtain ⟨G, rfl, hsx, hbf⟩ := hcut
  rename World => wf
  have HSx := Lib.hid hsx
  have HBf := Lib.hid hbf
  clear hsx hbf Hz Hnb HBz Hon Hyl Hyb2
  go_wp2_with fail
  go_loopw [26] (fun i wr => ∃ k : Nat, k ≤ 6 ∧ i = .int .i64 k ∧ Below wf.heap.size wf wr) (fun i _ => 6 - (intOf i).toNat)
  case atStart => exact ⟨0, by omega, rfl, Below.refl _ _⟩
  case round =>
    obtain ⟨k, hk, rfl, hb⟩ := hrel
    rename World => wr
    have Hb := Lib.hid hb
    clear hb
    by_cases hlt : k < 6
    · obtain ⟨v, hvc, A', n', c', ys', rfl, hn', hc', hm'⟩ := HSx.out k hlt
      have hvk := Keeps.of_below Hb.out _ _ hvc
      have hva : wr.cell? (Addr.add ⟨G, 0, none⟩ k) = some (.slice A' n' c') := by rw [add0]; exact hvk
      have hk0 : (0 : Int) ≤ (k : Int) := by omega
      have hk1 : (k : Int) < 6 := by omega
      have Hvc := Lib.hid hvc
      have Hn' := Lib.hid hn'
      obtain ⟨me, hme⟩ : ∃ me, me = (decV ys').2.1 := ⟨_, rfl⟩
      obtain ⟨cd, hcd⟩ : ∃ cd, cd = (decV ys').2.2.2 := ⟨_, rfl⟩
      have Hme := Lib.hid hme
      have Hcd := Lib.hid hcd
      have Hmi : Hid (inK .i64 me) := Lib.hid (by rw [hme]; exact decV_in)
      clear hvc hn' hme hcd
      go_wp2_with fail
      refine (Decode_any A' n' c' ys' _ (Hn'.out.keep (Keeps.of_below Hb.out)) hc' hm').mono ?_
      intro e w2 hd
      obtain ⟨hb2, A1, n1, c1, B1, m1, d1, rfl, hN1, hF1, q1, q2⟩ := hd.both Hn'.out.ok
      rw [← Hme.out, ← Hcd.out]
      obtain ⟨T1, hT1⟩ : ∃ T1, T1 = w2.heap.size := ⟨_, rfl⟩
      have hx1 := Box2.new w2 24 (.slice A1 n1 c1) (.int .i64 me)
      have ba1 := (Below.refl w2.heap.size w2).alloc (Nat.le_refl _) (.cells #[.slice A1 n1 c1, .int .i64 me] 24)
      have b3 : Below wf.heap.size wf (w2.alloc (.cells #[.slice A1 n1 c1, .int .i64 me] 24)) := Hb.out.trans ((hb2.trans (ba1.mono hb2.size)).mono Hb.out.size)
      have hN1' := hN1.keep (Keeps.of_below ba1)
      have hF1' := hF1.keep (Keeps.of_below ba1)
      have hvk := Keeps.of_below b3 _ _ Hvc.out
      have hva2 : (w2.alloc (.cells #[.slice A1 n1 c1, .int .i64 me] 24)).cell? (Addr.add ⟨G, 0, none⟩ k) = some (.slice A' n' c') := by rw [add0]; exact hvk
      rw [← hT1] at hx1
      have HT1 := Lib.hid hT1
      have Hx1 := Lib.hid hx1
      have HB3 := Lib.hid b3
      have HN1 := Lib.hid hN1'
      have HF1 := Lib.hid hF1'
      clear hb2 ba1 b3 hN1 hF1 hN1' hF1' hx1 hT1 hd hva
      go_wp2_with fail
      rw [← HT1.out]
      generalize w2.alloc _ = w3 at hvk hva2 Hx1 HB3 HN1 HF1 ⊢
      refine (rDecode_none A' n' c' ys' _ (Hn'.out.keep (Keeps.of_below HB3.out)) hc' hm').mono ?_
      intro e w4 hd
      obtain ⟨hb4, A2, n2, c2, B2, m2, d2, rfl, hN2, hF2, q3, q4⟩ := hd.both Hn'.out.ok
      rw [← Hme.out, ← Hcd.out]
      obtain ⟨T2, hT2⟩ : ∃ T2, T2 = w4.heap.size := ⟨_, rfl⟩
      have hx2 := Box2.new w4 24 (.slice A2 n2 c2) (.int .i64 me)
      have ba2 := (Below.refl w4.heap.size w4).alloc (Nat.le_refl _) (.cells #[.slice A2 n2 c2, .int .i64 me] 24)
      have b34 := hb4.trans (ba2.mono hb4.size)
      have b5 : Below wf.heap.size wf (w4.alloc (.cells #[.slice A2 n2 c2, .int .i64 me] 24)) := HB3.out.trans (b34.mono HB3.out.size)
      have hN2' := hN2.keep (Keeps.of_below ba2)
      have hF2' := hF2.keep (Keeps.of_below ba2)
      have hN1' := HN1.out.keep (Keeps.of_below b34)
      have hF1' := HF1.out.keep (Keeps.of_below b34)
      have hx1' := Hx1.out.below b34 Hx1.out.lt
      rw [← hT2] at hx2
      have c0 := hx1'.cell0
      have c1' := hx1'.cell1
      have e0 := hx2.cell0
      have e1 := hx2.cell1
      have HT2 := Lib.hid hT2
      have HB5 := Lib.hid b5
      have HN2 := Lib.hid hN2'
      have HF2 := Lib.hid hF2'
      have HN1 := Lib.hid hN1'
      have HF1 := Lib.hid hF1'
      clear hb4 ba2 b34 b5 hN2 hF2 hN2' hF2' hN1' hF1' hx1' hx2 hT2 hd hvk hva2 Hx1
      go_wp2_with fail
      rw [← HT2.out]
      generalize w4.alloc _ = w5 at c0 c1' e0 e1 HB5 HN1 HF1 HN2 HF2 ⊢
      refine (Same_any A1 B1 A2 B2 n1 c1 m1 d1 n2 c2 m2 d2 _ _ me me _ _ _ HN1.out HF1.out HN2.out HF2.out (by omega) (by omega) (fun r hr => by have := decV_rows ys' r hr; omega)).mono ?_
      rintro e w6 ⟨rfl, hb6⟩
      rw [show sameB (decV ys').1 me (decV ys').2.2.1 (decV ys').1 me (decV ys').2.2.1 = true by simp [sameB]]
      have HB6 := Lib.hid (HB5.out.trans (hb6.mono HB5.out.size))
      clear hb6
      go_wp2
      exact ⟨⟨k + 1, by omega, by go_num, HB6.out⟩, by simp [intOf]; omega⟩
    · go_wp2
      go_ret
      exact ⟨rfl, HBf.out.trans (Hb.out.mono HBf.out.size)⟩
end Go.Proofs.Ytnabmbnfmnpcoaa
