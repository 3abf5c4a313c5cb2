/- The walk of the law StoreNames: the Go text returns true, and writes nothing that was there. -/
import Derived.Test.YtiebmilmeimpiaaLw4
import Derived.BigQuiet
namespace Go.Proofs.Ytiebmilmeimpiaa
open Go.RowKit
theorem str_less (a b : Nm) : Op.bytesLess (str a).toList (str b).toList = decide (a < b) := by rw [str_list, str_list, bytesLess_eq]
theorem own_at {w : World} {B s n c : Nat} {P : Option Addr} {e : TypeId} {xs : List Value} (h : w.ownsRow B e s (.slice P n c) n xs) (hn : 0 < n) : ∃ g, P = some ⟨g, 0, none⟩ ∧ ∀ j u, xs[j]? = some u → w.cell? ⟨g, j, none⟩ = some u := by
  obtain ⟨P', c', ev, _, _, hc⟩ := own_form h
  injection ev with e1 _ _
  subst e1
  obtain ⟨g, e, _, hc⟩ := hc hn
  exact ⟨g, e, hc⟩
structure GN (σ : St) (k : Nat) : Prop where
  lim : σ.lim = 1000
  ones : ∀ p ∈ σ.fs, p.2.b = [1]
  few : σ.fs.length ≤ k
theorem GN.used {σ : St} {k : Nat} (h : GN σ k) : usedF σ.fs = σ.fs.length := by
  have : ∀ fs : Fs, (∀ p ∈ fs, p.2.b = [1]) → usedF fs = fs.length := by
    intro fs
    induction fs with
    | nil => intro _; rfl
    | cons p t ih =>
      intro h
      have := ih fun q hq => h q (List.mem_cons_of_mem _ hq)
      have e := h p List.mem_cons_self
      simp only [usedF, List.map_cons, List.sum_cons, List.length_cons] at this ⊢
      rw [this, e]
      simp; omega
  exact this _ h.ones
theorem GN.write {σ : St} {k : Nat} (h : GN σ k) (hk : k ≤ 100) (n : Nm) (hn : nameOk n = true) : ∃ σ', σ.write n [1] = (0, σ') ∧ GN σ' (k + 1) := by
  have hu := h.used
  have hf := h.few
  have hl := h.lim
  refine ⟨σ.deed (putF σ.fs n (wrF (fnd σ.fs n) [1])) 1 n, ?_, ⟨h.lim, fun p hp => ?_, ?_⟩⟩
  · unfold St.write
    rw [if_neg (by simp [hn]), if_neg (by rw [hu, hl]; simp; omega)]
  · rcases mem_putF hp with e | e
    · subst e
      unfold wrF
      split
      · rfl
      · split <;> rfl
    · exact h.ones p e
  · exact Nat.le_trans (len_put _ _ _) (by omega)
theorem GN.remove {σ : St} {k c : Nat} (h : GN σ k) (ho : σ.ok c) (n : Nm) : ∃ r σ', σ.remove n = (r, σ') ∧ GN σ' (k + 1) ∧ fnd σ'.fs n = none := by
  have hf := h.few
  unfold St.remove
  cases e : fnd σ.fs n with
  | none => exact ⟨_, _, rfl, ⟨h.lim, h.ones, by omega⟩, e⟩
  | some f => exact ⟨_, _, rfl, ⟨h.lim, fun p hp => h.ones p (mem_dropF hp), Nat.le_trans (len_drop _ _) (by omega)⟩, fnd_drop_same n ho.rising⟩
theorem rises {σ : St} {c k : Nat} (h : σ.ok c) (hk : 1 ≤ k) (hl : k < σ.fs.length) : (σ.fs[k - 1]'(by omega)).1 < (σ.fs[k]'hl).1 := (List.pairwise_iff_getElem.1 h.rising) (k - 1) k (by omega) hl (by omega)
theorem GN.wnil {σ : St} {k : Nat} (h : GN σ k) (hk : k ≤ 100) (m : Nat) : ∃ σ', σ.write (List.replicate m 120) [] = (if 1 ≤ m ∧ m ≤ 20 then 0 else 1, σ') := by
  have hu := h.used
  have hf := h.few
  have hl := h.lim
  unfold St.write
  by_cases hm : 1 ≤ m ∧ m ≤ 20
  · refine ⟨σ.deed (putF σ.fs (List.replicate m 120) (wrF (fnd σ.fs (List.replicate m 120)) [])) 1 (List.replicate m 120), ?_⟩
    rw [if_neg (by simp [nameOk, hm]), if_neg (by rw [hu, hl]; simp; omega), if_pos hm]
  · refine ⟨σ, ?_⟩
    rw [if_pos (by simp [nameOk]; omega), if_neg hm]
theorem str_snoc (m : Nat) : str (List.replicate m 120) ++ { data := #[120] } = str (List.replicate (m + 1) 120) := by
  rw [List.replicate_succ']
  apply ByteArray.ext
  apply Array.ext'
  simp [str, ByteArray.data_append]
theorem one_ok (u : UInt8) : nameOk [u] = true := rfl
set_option maxRecDepth 100000 in
set_option maxHeartbeats 8000000 in
theorem storeNames_walk (a0 : Option Addr) (len0 cap0 : Nat) (z0 : List Int) (a1 : Int) (w : World) (w0 : IsRow .i64 w a0 len0 cap0 z0) (hn : inK .i64 a1) :
    Calls Try.prog 10 #[.slice a0 len0 cap0, .int .i64 a1] w fun e w' => e = .returned (.bool true) ∧ Below w.heap.size w w' := by
  obtain ⟨hx, hlc, hcap⟩ := w0.nums
  generalize z0.take len0 = xs at hx
  have Hx := Lib.hid hx
  have Hn := Lib.hid hn
  clear w0 hx hn
  go_enter Try.func10, Try.ntmps10
  go_wp2_with fail
  refine (known4 w).mono ?_
  rintro e w1 ⟨rfl, hb1⟩
  have Hb1 := Lib.hid hb1
  clear hb1
  go_wp2_with fail
  refine (new_s Hb1.out 1000 (by omega)).mono ?_
  rintro e w2 ⟨rfl, h, -⟩
  have H := Lib.hid h
  clear h Hb1
  generalize w1.heap.size = p at H ⊢
  generalize (fun j => j = p) = M at H
  go_wp2_with fail
  go_loopw [6] (fun i wr => ∃ (k : Nat) (σ : St) (M : Nat → Prop), k ≤ len0 ∧ k ≤ 30 ∧ i = .int .i64 k ∧ S w wr p σ k M ∧ GN σ k) (fun i _ => len0 - (intOf i).toNat)
  case atStart => exact ⟨0, _, _, by omega, by omega, rfl, H.out, ⟨rfl, by simp [St.new], by simp [St.new]⟩⟩
  case round =>
    obtain ⟨k, σ, M, hk, hk30, rfl, hS, hG⟩ := hrel
    rename World => wr
    have HS := Lib.hid hS
    have HG := Lib.hid hG
    clear hS hG H
    by_cases hlt : k < len0
    · by_cases h30 : k < 30
      · obtain ⟨ad, x, rfl, hxk, ⟨hx1, hx2⟩, hxc⟩ := (Hx.out.tch HS.out.bel).at_ hlt
        clear hxk
        obtain ⟨q, hq⟩ : ∃ q, q = x % 12 := ⟨_, rfl⟩
        have q1 : 0 ≤ q := by omega
        have q2 : q ≤ 11 := by omega
        have hxk := tdiv_in (k := x) (c := 12) ⟨hx1, hx2⟩ (by omega)
        have Hxk := Lib.hid hxk
        have Hq := Lib.hid hq
        clear hq hxk
        go_wp2_with fail
        refine (wi4 x 12 _ ⟨hx1, hx2⟩ (by omega) (by omega)).mono ?_
        rintro e w3 ⟨rfl, rfl⟩
        rw [← Hq.out]
        have hcv : (convert 23 9 (.slice (some ⟨wr.heap.size, 0, none⟩) 1 1)).run Try.prog (wr.alloc (.cells #[.int .u8 (97 + q)] 5)) = .ok (.string (str [UInt8.ofNat (97 + q).toNat])) (wr.alloc (.cells #[.int .u8 (97 + q)] 5)) := cv_str (nums_new wr [97 + q] 5 (0, 0) (by simp; omega))
        generalize UInt8.ofNat (97 + q).toNat = u at hcv
        have hS' := Lib.hid (HS.out.alloc (.cells #[.int .u8 (97 + q)] 5))
        have hxc' : (wr.alloc (.cells #[.int .u8 (97 + q)] 5)).cell? (ad.add k) = some (.int .i64 x) := (Keeps.of_below ((Below.refl _ wr).alloc (Nat.le_refl _) _)) _ _ hxc
        clear HS
        --NAME
        go_wp2_with fail
        refine (wi4 (x.tdiv 12) 3 _ Hxk.out (by omega) (by omega)).mono ?_
        rintro e w3 ⟨rfl, rfl⟩
        clear hcv hxc hxc'
        generalize wr.alloc (.cells #[.int .u8 (97 + q)] 5) = w3 at hS' ⊢
        have HS := hS'
        clear hS'
        by_cases h3 : x.tdiv 12 % 3 = 0
        · have hz : (x.tdiv 12 % 3 == 0) = true := by simpa using h3
          obtain ⟨r, σ', hrm, hG', hnone⟩ := HG.out.remove HS.out.ok [u]
          have HG' := Lib.hid hG'
          have Hnone := Lib.hid hnone
          clear h3 hG' hnone HG
          go_wp2_with fail
          refine (remove_s HS.out [u] r σ' (by simp) (by omega) hrm).mono ?_
          rintro e w4 ⟨rfl, h, -⟩
          have H4 := Lib.hid h
          clear h HS hrm
          generalize Grw _ _ w4 = M4 at H4
          go_wp2_with fail
          refine (read_s H4.out [u] (by simp) false [] (by rw [Hnone.out]; rfl) (by rw [Hnone.out]; rfl)).mono ?_
          rintro e w5 ⟨P5, c5, rfl, -, -, hb⟩
          have H5 := Lib.hid (H4.out.below hb)
          clear hb H4
          go_wp2_with fail
          refine (names_s H5.out (by omega)).mono ?_
          rintro e w6 ⟨P6, c6, rfl, hc6, ho6, hb6⟩
          have H6 := Lib.hid (H5.out.below hb6)
          have Ho6 := Lib.hid ho6
          clear ho6 hb6 H5
          have hN : σ'.fs.length ≤ k + 1 := HG'.out.few
          have Hok := Lib.hid H6.out.ok
          have Hu := Lib.hid HG'.out.used
          obtain ⟨N, eN⟩ : ∃ N, N = σ'.fs.length := ⟨_, rfl⟩
          rw [← eN] at hN Hu Ho6 hc6 ⊢
          have EN := Lib.hid eN
          clear eN
          go_wp2_with fail
          go_loopw [11] (fun j wx => ∃ (m nq : Nat), 1 ≤ m ∧ (m ≤ N ∨ m = 1) ∧ j = .int .i64 m ∧ wx = w6.drewN nq) (fun j _ => N - (intOf j).toNat)
          case atStart => exact ⟨1, 0, by omega, by omega, rfl, rfl⟩
          case round =>
            obtain ⟨m, n0, hm1, hm2, rfl, rfl⟩ := hrel
            by_cases hm : m < N
            · obtain ⟨g, rfl, hcell⟩ := own_at Ho6.out (by omega)
              have hm' : m < σ'.fs.length := by rw [← EN.out]; exact hm
              have hr := rises Hok.out hm1 hm'
              have ha : w6.cell? ⟨g, m - 1, none⟩ = some (.string (str (σ'.fs[m - 1]'(by omega)).1)) := hcell (m - 1) _ (by unfold nmCells; rw [List.getElem?_map, List.getElem?_eq_getElem (by omega)]; rfl)
              have hb : w6.cell? ⟨g, m, none⟩ = some (.string (str (σ'.fs[m]'hm').1)) := hcell m _ (by unfold nmCells; rw [List.getElem?_map, List.getElem?_eq_getElem hm']; rfl)
              have hlb := str_less (σ'.fs[m - 1]'(by omega)).1 (σ'.fs[m]'hm').1
              rw [decide_eq_true hr] at hlb
              generalize (σ'.fs[m - 1]'(by omega)).1 = na at ha hlb
              generalize (σ'.fs[m]'hm').1 = nb at hb hlb
              clear hr hcell
              obtain ⟨j, rfl⟩ : ∃ j, m = j + 1 := ⟨m - 1, by omega⟩
              have ha : w6.cell? ⟨g, j, none⟩ = some (.string (str na)) := ha
              have ej : ((j + 1 : Nat) : Int) - 1 = (j : Int) := by omega
              have i0 : (0 : Int) ≤ (j : Int) := by omega
              have i1 : (j : Int) < (N : Int) := by omega
              have i2 : (0 : Int) ≤ (j : Int) + 1 := by omega
              have i3 : (j : Int) + 1 < (N : Int) := by omega
              clear ej hm2 hm1 hm'
              go_wp2_with fail
              go_quiet (fail)
              go_wp2_with fail
              exact ⟨⟨j + 1 + 1, n0 + nq, by omega, by omega, by go_num, rfl⟩, by simp [intOf]; omega⟩
            · go_wp2_with fail
              refine (used_s (H6.out.drewN n0)).mono ?_
              rintro e w7 ⟨rfl, rfl⟩
              rw [Hu.out]
              go_wp2
              exact ⟨⟨k + 1, σ', M4, by omega, by omega, by go_num, H6.out.drewN n0, HG'.out⟩, by simp [intOf]; omega⟩
        · have hz : (x.tdiv 12 % 3 == 0) = false := by simpa using h3
          obtain ⟨σ', hrm, hG'⟩ := HG.out.write (by omega) [u] (one_ok u)
          have HG' := Lib.hid hG'
          have HN1 := Lib.hid (nums_new w3 [1] 5 (0, 0) (by simp))
          clear h3 hG' HG
          go_wp2_with fail
          refine (write_s (HS.out.alloc _) [u] _ 1 1 [1] 0 σ' (by simp) (by omega) HN1.out (by omega) (by omega) (by omega) hrm).mono ?_
          rintro e w5 ⟨rfl, h, -⟩
          have H5 := Lib.hid h
          clear h HS hrm HN1
          generalize Grw _ _ w5 = M4 at H5
          go_wp2_with fail
          refine (names_s H5.out (by omega)).mono ?_
          rintro e w6 ⟨P6, c6, rfl, hc6, ho6, hb6⟩
          have H6 := Lib.hid (H5.out.below hb6)
          have Ho6 := Lib.hid ho6
          clear ho6 hb6 H5
          have hN : σ'.fs.length ≤ k + 1 := HG'.out.few
          have Hok := Lib.hid H6.out.ok
          have Hu := Lib.hid HG'.out.used
          obtain ⟨N, eN⟩ : ∃ N, N = σ'.fs.length := ⟨_, rfl⟩
          rw [← eN] at hN Hu Ho6 hc6 ⊢
          have EN := Lib.hid eN
          clear eN
          go_wp2_with fail
          go_loopw [11] (fun j wx => ∃ (m nq : Nat), 1 ≤ m ∧ (m ≤ N ∨ m = 1) ∧ j = .int .i64 m ∧ wx = w6.drewN nq) (fun j _ => N - (intOf j).toNat)
          case atStart => exact ⟨1, 0, by omega, by omega, rfl, rfl⟩
          case round =>
            obtain ⟨m, n0, hm1, hm2, rfl, rfl⟩ := hrel
            by_cases hm : m < N
            · obtain ⟨g, rfl, hcell⟩ := own_at Ho6.out (by omega)
              have hm' : m < σ'.fs.length := by rw [← EN.out]; exact hm
              have hr := rises Hok.out hm1 hm'
              have ha : w6.cell? ⟨g, m - 1, none⟩ = some (.string (str (σ'.fs[m - 1]'(by omega)).1)) := hcell (m - 1) _ (by unfold nmCells; rw [List.getElem?_map, List.getElem?_eq_getElem (by omega)]; rfl)
              have hb : w6.cell? ⟨g, m, none⟩ = some (.string (str (σ'.fs[m]'hm').1)) := hcell m _ (by unfold nmCells; rw [List.getElem?_map, List.getElem?_eq_getElem hm']; rfl)
              have hlb := str_less (σ'.fs[m - 1]'(by omega)).1 (σ'.fs[m]'hm').1
              rw [decide_eq_true hr] at hlb
              generalize (σ'.fs[m - 1]'(by omega)).1 = na at ha hlb
              generalize (σ'.fs[m]'hm').1 = nb at hb hlb
              clear hr hcell
              obtain ⟨j, rfl⟩ : ∃ j, m = j + 1 := ⟨m - 1, by omega⟩
              have ha : w6.cell? ⟨g, j, none⟩ = some (.string (str na)) := ha
              have ej : ((j + 1 : Nat) : Int) - 1 = (j : Int) := by omega
              have i0 : (0 : Int) ≤ (j : Int) := by omega
              have i1 : (j : Int) < (N : Int) := by omega
              have i2 : (0 : Int) ≤ (j : Int) + 1 := by omega
              have i3 : (j : Int) + 1 < (N : Int) := by omega
              clear ej hm2 hm1 hm'
              go_wp2_with fail
              go_quiet (fail)
              go_wp2_with fail
              exact ⟨⟨j + 1 + 1, n0 + nq, by omega, by omega, by go_num, rfl⟩, by simp [intOf]; omega⟩
            · go_wp2_with fail
              refine (used_s (H6.out.drewN n0)).mono ?_
              rintro e w7 ⟨rfl, rfl⟩
              rw [Hu.out]
              go_wp2
              exact ⟨⟨k + 1, σ', M4, by omega, by omega, by go_num, H6.out.drewN n0, HG'.out⟩, by simp [intOf]; omega⟩
      · obtain ⟨R, hR⟩ : ∃ R : Nat, (R : Int) = a1 % 30 := ⟨(a1 % 30).toNat, by omega⟩
        have hR30 : R ≤ 29 := by omega
        have HR := Lib.hid hR
        clear hR
        go_wp2_with fail
        go_loopw [12, 13] (fun s i wx => ∃ (m : Nat), m ≤ R ∧ i = .int .i64 m ∧ s = .string (str (List.replicate m 120)) ∧ wx = wr) (fun _ i _ => R - (intOf i).toNat)
        case atStart => exact ⟨0, by omega, rfl, rfl, rfl⟩
        case round =>
          obtain ⟨m, hm, rfl, rfl, rfl⟩ := hrel
          go_wp2_with fail
          refine (wi4 a1 30 _ Hn.out (by omega) (by omega)).mono ?_
          rintro e w3 ⟨rfl, rfl⟩
          rw [← HR.out]
          by_cases hmR : m < R
          · have hz : ((str (List.replicate m 120)).size : Nat) = m := by rw [str_size, List.length_replicate]
            go_wp2
            exact ⟨⟨m + 1, by omega, by go_num, by rw [str_snoc], trivial⟩, by simp [intOf]; omega⟩
          · obtain rfl : m = R := by omega
            obtain ⟨σw, hw⟩ := HG.out.wnil (by omega) m
            go_wp2_with fail
            refine (write_s HS.out (List.replicate m 120) none 0 0 [] _ σw (by simp; omega) (by omega) (Nums.nil _ _ _) (by omega) (by omega) (by omega) hw).mono ?_
            rintro e w9 ⟨rfl, h, -⟩
            have hz : ((str (List.replicate m 120)).size : Nat) = m := by rw [str_size, List.length_replicate]
            have H9 := Lib.hid h
            clear h hw
            by_cases h1 : 1 ≤ m
            · by_cases h2 : m ≤ 20
              · have hd : decide ((m : Int) ≤ 20) = true := by simp; omega
                rw [if_pos ⟨h1, h2⟩]
                go_wp2
                go_ret
                exact ⟨rfl, H9.out.bel⟩
              · have hd : decide ((m : Int) ≤ 20) = false := by simp; omega
                rw [if_neg (by omega)]
                go_wp2
                go_ret
                exact ⟨rfl, H9.out.bel⟩
            · rw [if_neg (by omega)]
              go_wp2
              go_ret
              exact ⟨rfl, H9.out.bel⟩
    · obtain ⟨R, hR⟩ : ∃ R : Nat, (R : Int) = a1 % 30 := ⟨(a1 % 30).toNat, by omega⟩
      have hR30 : R ≤ 29 := by omega
      have HR := Lib.hid hR
      clear hR
      go_wp2_with fail
      go_loopw [12, 13] (fun s i wx => ∃ (m : Nat), m ≤ R ∧ i = .int .i64 m ∧ s = .string (str (List.replicate m 120)) ∧ wx = wr) (fun _ i _ => R - (intOf i).toNat)
      case atStart => exact ⟨0, by omega, rfl, rfl, rfl⟩
      case round =>
        obtain ⟨m, hm, rfl, rfl, rfl⟩ := hrel
        go_wp2_with fail
        refine (wi4 a1 30 _ Hn.out (by omega) (by omega)).mono ?_
        rintro e w3 ⟨rfl, rfl⟩
        rw [← HR.out]
        by_cases hmR : m < R
        · have hz : ((str (List.replicate m 120)).size : Nat) = m := by rw [str_size, List.length_replicate]
          go_wp2
          exact ⟨⟨m + 1, by omega, by go_num, by rw [str_snoc], trivial⟩, by simp [intOf]; omega⟩
        · obtain rfl : m = R := by omega
          obtain ⟨σw, hw⟩ := HG.out.wnil (by omega) m
          go_wp2_with fail
          refine (write_s HS.out (List.replicate m 120) none 0 0 [] _ σw (by simp; omega) (by omega) (Nums.nil _ _ _) (by omega) (by omega) (by omega) hw).mono ?_
          rintro e w9 ⟨rfl, h, -⟩
          have hz : ((str (List.replicate m 120)).size : Nat) = m := by rw [str_size, List.length_replicate]
          have H9 := Lib.hid h
          clear h hw
          by_cases h1 : 1 ≤ m
          · by_cases h2 : m ≤ 20
            · have hd : decide ((m : Int) ≤ 20) = true := by simp; omega
              rw [if_pos ⟨h1, h2⟩]
              go_wp2
              go_ret
              exact ⟨rfl, H9.out.bel⟩
            · have hd : decide ((m : Int) ≤ 20) = false := by simp; omega
              rw [if_neg (by omega)]
              go_wp2
              go_ret
              exact ⟨rfl, H9.out.bel⟩
          · rw [if_neg (by omega)]
            go_wp2
            go_ret
            exact ⟨rfl, H9.out.bel⟩
end Go.Proofs.Ytiebmilmeimpiaa
