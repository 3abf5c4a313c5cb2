/- The walk of the law StoreFull: the Go text returns true, and writes nothing that was there. -/
import Derived.Test.YtiebmilmeimpiaaLw4
import Derived.Test.YtiebmilmeimpiaaSure
import Derived.Test.YtiebmilmeimpiaaRegion
import Derived.BigQuiet
namespace Go.Proofs.Ytiebmilmeimpiaa
open Go.RowKit
def upd (L : Nat → Nat) (f n : Nat) : Nat → Nat := fun j => if j = f then n else L j
structure GF (σ : St) (k : Int) (L : Nat → Nat) : Prop where
  lim : σ.lim = k
  used : usedF σ.fs = L 0 + L 1 + L 2 + L 3
  le : (usedF σ.fs : Int) ≤ k
  at_ : ∀ f, f ≤ 3 → lenF (fnd σ.fs (nm1 f)) = L f
theorem wrF_b (o : Option SF) (b : List Int) : (wrF o b).b = b := by
  cases o with
  | none => rfl
  | some f =>
    unfold wrF
    dsimp only
    split <;> rfl
theorem wrapf {f : Nat} (h : f ≤ 3) : IntKind.u8.wrap (IntKind.i64.wrap (97 + (f : Int))) = 97 + f := by
  rcases (by omega : f = 0 ∨ f = 1 ∨ f = 2 ∨ f = 3) with rfl | rfl | rfl | rfl <;> rfl
theorem GF.yes {σ : St} {k : Int} {L : Nat → Nat} (h : GF σ k L) (hr : Rising σ.fs) {f : Nat} (hf : f ≤ 3) (n : Nat) (hn : (usedF σ.fs : Int) - L f + n ≤ k) :
    ∃ σ', σ.write (nm1 f) (List.replicate n 0) = (0, σ') ∧ GF σ' k (upd L f n) := by
  have hl := h.lim
  have ha := h.at_ f hf
  have hu := used_put (nm1 f) (wrF (fnd σ.fs (nm1 f)) (List.replicate n 0)) hr
  rw [ha, wrF_b, List.length_replicate] at hu
  have hs : upd L f n 0 + upd L f n 1 + upd L f n 2 + upd L f n 3 + L f = L 0 + L 1 + L 2 + L 3 + n := by
    rcases (by omega : f = 0 ∨ f = 1 ∨ f = 2 ∨ f = 3) with rfl | rfl | rfl | rfl <;> simp [upd] <;> omega
  have hu0 := h.used
  refine ⟨σ.deed (putF σ.fs (nm1 f) (wrF (fnd σ.fs (nm1 f)) (List.replicate n 0))) 1 (nm1 f), ?_, ⟨hl, ?_, ?_, fun j hj => ?_⟩⟩
  · unfold St.write
    rw [if_neg (by simp [nameOk, nm1]), if_neg (by rw [ha, hl, List.length_replicate]; omega)]
  · show usedF (putF σ.fs (nm1 f) (wrF (fnd σ.fs (nm1 f)) (List.replicate n 0))) = _
    omega
  · show (usedF (putF σ.fs (nm1 f) (wrF (fnd σ.fs (nm1 f)) (List.replicate n 0))) : Int) ≤ _
    omega
  · show lenF (fnd (putF σ.fs (nm1 f) (wrF (fnd σ.fs (nm1 f)) (List.replicate n 0))) (nm1 j)) = _
    by_cases e : j = f
    · subst e
      rw [fnd_put_same]
      simp [lenF, wrF_b, upd]
    · rw [fnd_put_other _ _ (nm1_ne (by omega) (by omega) e), h.at_ j hj]
      simp [upd, e]
theorem GF.no {σ : St} {k : Int} {L : Nat → Nat} (h : GF σ k L) {f : Nat} (hf : f ≤ 3) (n : Nat) (hn : ¬ (usedF σ.fs : Int) - L f + n ≤ k) : σ.write (nm1 f) (List.replicate n 0) = (4, σ) := by
  unfold St.write
  rw [if_neg (by simp [nameOk, nm1]), if_pos (by rw [h.at_ f hf, h.lim, List.length_replicate]; omega)]
/-- The store, and the law's own array beside it. -/
structure IF (w wr : World) (p g : Nat) (σ : St) (c : Nat) (L : Nat → Nat) : Prop where
  ex : ∃ M A, StoreAt wr p σ c M A ∧ (∀ j, M j → w.heap.size ≤ j ∧ j ≠ g) ∧ (∀ j, A j → j ≠ g)
  arr : Arr .i64 49 wr g [(L 0 : Int), (L 1 : Int), (L 2 : Int), (L 3 : Int)]
  low : w.heap.size ≤ g
  bel : Below w.heap.size w wr
section
variable {w wr w' : World} {p g c : Nat} {σ σ' : St} {L : Nat → Nat}
theorem IF.ok (h : IF w wr p g σ c L) : σ.ok c := by obtain ⟨M, A, h1, _⟩ := h.ex; exact h1.ok
theorem IF.lt (h : IF w wr p g σ c L) : g < wr.heap.size := h.arr.lt
theorem IF.below (h : IF w wr p g σ c L) (hb : Below wr.heap.size wr w') : IF w w' p g σ c L := by
  obtain ⟨M, A, h1, h2, h3⟩ := h.ex
  exact ⟨⟨M, A, h1.below hb, h2, h3⟩, h.arr.below hb h.lt, h.low, h.bel.trans (hb.mono h.bel.size)⟩
theorem IF.drewN (h : IF w wr p g σ c L) (n : Nat) : IF w (wr.drewN n) p g σ c L := h.below ⟨rfl, rfl, rfl, Nat.le_refl _, fun _ _ => rfl⟩
theorem IF.alloc (h : IF w wr p g σ c L) (o : Obj) : IF w (wr.alloc o) p g σ c L := h.below ((Below.refl _ _).alloc (Nat.le_refl _) o)
theorem IF.write (h : IF w wr p g σ c L) (n : Nm) (Pb : Option Addr) (m cap : Nat) (xs : List Int) (r : Int) (hn : n.length ≤ 1000000) (hc : c ≤ 999999) (hx : Nums .u8 wr Pb m xs) (hm : m ≤ 1000) (hmc : m ≤ cap) (hcap : cap ≤ 9223372036854775807) (e : σ.write n xs = (r, σ')) :
    Calls Try.prog 24 #[.pointer (some ⟨p, 0, none⟩), .string (str n), .slice Pb m cap] wr fun e w' => e = .returned (.int .i64 r) ∧ IF w w' p g σ' (c + 1) L := by
  obtain ⟨M, A, h1, h2, h3⟩ := h.ex
  have := sWrite_any n Pb m cap xs h1 hn hc hx hm hmc (by simpa [maxLen] using hcap)
  rw [e] at this
  refine this.mono ?_
  rintro e w' ⟨he, h4, h5⟩
  have hg := h.lt
  refine ⟨he, ⟨⟨_, _, h4, fun j hj => ?_, fun j hj => ?_⟩, ?_, h.low, h.bel.trans (h5.below (fun j hj => (h2 j hj).1) h.bel.size)⟩⟩
  · rcases hj with hj | hj
    · exact h2 j hj
    · have := h.bel.size; have := hj.1; omega
  · rcases hj with hj | hj
    · exact h3 j hj
    · have := hj.1; omega
  · exact (h5.block g hg fun hm => (h2 g hm).2 rfl).trans h.arr
theorem IF.set_ (h : IF w wr p g σ c L) {f : Nat} (hf : f ≤ 3) (n : Nat) : IF w (wr.setCell ⟨g, f, none⟩ (.int .i64 (n : Int))) p g σ c (upd L f n) := by
  obtain ⟨M, A, h1, h2, h3⟩ := h.ex
  have ht : Tch (fun j => j = g) wr (wr.setCell ⟨g, f, none⟩ (.int .i64 (n : Int))) := Tch.setCell (M := fun j => j = g) rfl wr f _
  refine ⟨⟨M, A, h1.tch ht fun k hk => ⟨fun hm => (h2 k hm).2 hk, fun ha => h3 k ha hk⟩, h2, h3⟩, ?_, h.low, h.bel.trans (ht.below (fun j hj => by rw [hj]; exact h.low) h.bel.size)⟩
  have := h.arr.set_ f (n : Int)
  rcases (by omega : f = 0 ∨ f = 1 ∨ f = 2 ∨ f = 3) with rfl | rfl | rfl | rfl <;> simpa [upd] using this
theorem IF.cell (h : IF w wr p g σ c L) {f : Nat} (hf : f ≤ 3) : wr.cell? ⟨g, f, none⟩ = some (.int .i64 (L f : Int)) := by
  refine h.arr.cell ?_
  rcases (by omega : f = 0 ∨ f = 1 ∨ f = 2 ∨ f = 3) with rfl | rfl | rfl | rfl <;> rfl
theorem IF.used (h : IF w wr p g σ c L) : Calls Try.prog 30 #[.pointer (some ⟨p, 0, none⟩)] wr fun e w' => e = .returned (.int .i64 (usedF σ.fs : Int)) ∧ w' = wr := by
  obtain ⟨M, A, h1, _⟩ := h.ex
  exact (sUsed_any h1).mono fun _ _ ⟨he, hw⟩ => ⟨he, hw.symm⟩
end
set_option maxRecDepth 100000 in
set_option maxHeartbeats 8000000 in
theorem storeFull_walk (a0 : Int) (a1 : Option Addr) (len1 cap1 : Nat) (z1 : List Int) (w : World) (h0 : inK .i64 a0) (w1 : IsRow .i64 w a1 len1 cap1 z1) :
    Calls Try.prog 7 #[.int .i64 a0, .slice a1 len1 cap1] w fun e w' => e = .returned (.bool true) ∧ Below w.heap.size w w' := by
  obtain ⟨hx, hlc, hcap⟩ := w1.nums
  generalize z1.take len1 = xs at hx
  have Hx := Lib.hid hx
  obtain ⟨a01, a02⟩ := h0
  clear w1 hx
  obtain ⟨lim, hlim⟩ : ∃ lim, lim = a0 % 100 := ⟨_, rfl⟩
  have l1 : 0 ≤ lim := by omega
  have l2 : lim ≤ 99 := by omega
  have Hlim := Lib.hid hlim
  clear hlim
  go_enter Try.func7, Try.ntmps7
  go_wp2_with fail
  refine (known4 w).mono ?_
  rintro e w1 ⟨rfl, hb1⟩
  have Hb1 := Lib.hid hb1
  clear hb1
  go_wp2_with fail
  refine (wi4 a0 100 _ ⟨a01, a02⟩ (by omega) (by omega)).mono ?_
  rintro e w3 ⟨rfl, rfl⟩
  rw [← Hlim.out]
  go_wp2_with fail
  refine (sNew_any lim w1).mono ?_
  rintro e w2 ⟨rfl, hw2⟩
  have hs2 := StoreAt.new w1 lim (by omega)
  rw [← hw2] at hs2
  have hz2 : w2.heap.size = w1.heap.size + 1 := by rw [hw2]; simp
  have hb2 : Below w.heap.size w w2 := Hb1.out.trans (hw2 ▸ (((Below.refl w1.heap.size w1).alloc (Nat.le_refl _) _).mono Hb1.out.size))
  have ha : Arr .i64 49 (w2.alloc (.cells #[.int .i64 0, .int .i64 0, .int .i64 0, .int .i64 0] 49)) w2.heap.size [((fun _ => 0 : Nat → Nat) 0 : Int), ((fun _ => 0 : Nat → Nat) 1 : Int), ((fun _ => 0 : Nat → Nat) 2 : Int), ((fun _ => 0 : Nat → Nat) 3 : Int)] := heap_alloc_new w2 _
  have hba := (Below.refl w2.heap.size w2).alloc (Nat.le_refl _) (.cells #[.int .i64 0, .int .i64 0, .int .i64 0, .int .i64 0] 49)
  have hI : IF w (w2.alloc (.cells #[.int .i64 0, .int .i64 0, .int .i64 0, .int .i64 0] 49)) w1.heap.size w2.heap.size (St.new lim) 0 (fun _ => 0) :=
    ⟨⟨_, _, hs2.below hba, fun j hj => ⟨by subst hj; exact Hb1.out.size, by omega⟩, fun j hj => hj.elim⟩, ha, hb2.size, hb2.trans (hba.mono hb2.size)⟩
  have HI := Lib.hid hI
  clear hw2 hs2 hz2 hb2 ha hba hI Hb1
  generalize w1.heap.size = p at HI ⊢
  go_wp2_with fail
  go_loopw [8] (fun i wr => ∃ (k : Nat) (σ : St) (L : Nat → Nat), k ≤ len1 ∧ k ≤ 40 ∧ i = .int .i64 k ∧ IF w wr p w2.heap.size σ k L ∧ GF σ lim L) (fun i _ => len1 - (intOf i).toNat)
  case atStart => exact ⟨0, _, _, by omega, by omega, rfl, HI.out, ⟨rfl, rfl, by simp [St.new, usedF]; exact l1, fun _ _ => rfl⟩⟩
  case round =>
    obtain ⟨k, σ, L, hk, hk40, rfl, hI, hG⟩ := hrel
    rename World => wr
    clear HI
    have HI := Lib.hid hI
    have HG := Lib.hid hG
    clear hI hG
    generalize w2.heap.size = g at HI ⊢
    by_cases hlt : k < len1
    · by_cases h40 : k < 40
      · obtain ⟨ad, x, rfl, hxk, ⟨hx1, hx2⟩, hxc⟩ := (Hx.out.tch HI.out.bel).at_ hlt
        clear hxk
        obtain ⟨f, hf⟩ : ∃ f : Nat, (f : Int) = x % 4 := ⟨(x % 4).toNat, by omega⟩
        obtain ⟨n, hn⟩ : ∃ n : Nat, (n : Int) = x.tdiv 4 % 60 := ⟨(x.tdiv 4 % 60).toNat, by omega⟩
        have hf3 : f ≤ 3 := by omega
        have hn60 : n ≤ 59 := by omega
        have g1 := fun m => Calls.quiet_of_same (n := m) ((wi4 x 4 (wr.drewN m) ⟨hx1, hx2⟩ (by omega) (by omega)).mono fun _ _ ⟨he, hw⟩ => ⟨he, hw.symm⟩)
        have g2 := fun m => Calls.quiet_of_same (n := m) ((wi4 (x.tdiv 4) 60 (wr.drewN m) (tdiv_in ⟨hx1, hx2⟩ (by omega)) (by omega) (by omega)).mono fun _ _ ⟨he, hw⟩ => ⟨he, hw.symm⟩)
        rw [← hf] at g1
        rw [← hn] at g2
        have G1 := Lib.hid g1
        have G2 := Lib.hid g2
        have i0 : (0 : Int) ≤ (k : Int) := by omega
        have i1 : (k : Int) < (len1 : Int) := by omega
        have d40 : decide ((k : Int) < 40) = true := by simp; omega
        clear g1 g2 hf hn
        go_wp2_with fail
        go_quiet (first | with_reducible exact G1.out _ | with_reducible exact G2.out _)
        have HI1 := Lib.hid (HI.out.drewN nq)
        generalize wr.drewN nq = w3 at HI1 ⊢
        clear HI hxc G1 G2
        have x0 := HI1.out.cell (f := 0) (by omega)
        have x1 := HI1.out.cell (f := 1) (by omega)
        have x2 := HI1.out.cell (f := 2) (by omega)
        have x3 := HI1.out.cell (f := 3) (by omega)
        have hu := HG.out.used
        have hle := HG.out.le
        have u0 : (L 0 : Int) ≤ 99 := by omega
        have u1 : (L 1 : Int) ≤ 99 := by omega
        have u2 : (L 2 : Int) ≤ 99 := by omega
        have u3 : (L 3 : Int) ≤ 99 := by omega
        have uf : (L f : Int) ≤ 99 := by rcases (by omega : f = 0 ∨ f = 1 ∨ f = 2 ∨ f = 3) with rfl | rfl | rfl | rfl <;> assumption
        have Hu := Lib.hid hu
        have Hle := Lib.hid hle
        clear hu hle
        go_wp2_with fail
        have hbb : 0 ≤ IntKind.u8.wrap (IntKind.i64.wrap (97 + (f : Int))) ∧ IntKind.u8.wrap (IntKind.i64.wrap (97 + (f : Int))) ≤ 255 := by rw [wrapf hf3]; omega
        have hcvA : ∀ (W : World) (b : Nat), Nums .u8 W (some ⟨b, 0, none⟩) 1 [IntKind.u8.wrap (IntKind.i64.wrap (97 + (f : Int)))] → (convert 23 9 (.slice (some ⟨b, 0, none⟩) 1 1)).run Try.prog W = .ok (.string (str (nm1 f))) W := fun W b h => by
          have h := cv_str (c := 1) h
          rw [show strOf [IntKind.u8.wrap (IntKind.i64.wrap (97 + (f : Int)))] = str (nm1 f) from by rw [wrapf hf3]; simp only [strOf, str, nm1, List.map_cons, List.map_nil]; rw [show (97 + (f : Int)).toNat = 97 + f from by omega]] at h
          exact h
        have km := fun W => make_at W n (by omega)
        obtain ⟨r, σ', hwr, hcase⟩ : ∃ r σ', σ.write (nm1 f) (List.replicate n 0) = (r, σ') ∧ ((r = 0 ∧ GF σ' lim (upd L f n) ∧ (L 0 : Int) + L 1 + L 2 + L 3 - L f + n ≤ lim) ∨ (r = 4 ∧ σ' = σ ∧ ¬ (L 0 : Int) + L 1 + L 2 + L 3 - L f + n ≤ lim)) := by
          have hu := Hu.out
          by_cases hfit : (usedF σ.fs : Int) - L f + n ≤ lim
          · obtain ⟨σ', h1, h2⟩ := HG.out.yes HI1.out.ok.rising hf3 n hfit
            exact ⟨0, σ', h1, .inl ⟨rfl, h2, by omega⟩⟩
          · exact ⟨4, σ, HG.out.no hf3 n hfit, .inr ⟨rfl, rfl, by omega⟩⟩
        have Hwr := Lib.hid hwr
        have Hcase := Lib.hid hcase
        have Hbb := Lib.hid hbb
        have na1 := nums_new w3 [IntKind.u8.wrap (IntKind.i64.wrap (97 + (f : Int)))] 5 (0, 0) (by simpa using Hbb.out)
        have e1 : (w3.alloc (.cells (byts [IntKind.u8.wrap (IntKind.i64.wrap (97 + (f : Int)))]).toArray 5)).heap.size = w3.heap.size + 1 := by simp
        have e2 : (w3.alloc (.cells (madeCells #[.int .u8 0] n) 5)).heap.size = w3.heap.size + 1 := by simp
        have na2 := nums_made (w3.alloc (.cells (byts [IntKind.u8.wrap (IntKind.i64.wrap (97 + (f : Int)))]).toArray 5)) n
        have nb2 := nums_new (w3.alloc (.cells (madeCells #[.int .u8 0] n) 5)) [IntKind.u8.wrap (IntKind.i64.wrap (97 + (f : Int)))] 5 (0, 0) (by simpa using Hbb.out)
        rw [e1] at na2
        rw [e2] at nb2
        have NA1 := Lib.hid na1
        have NA2 := Lib.hid na2
        have NA3 := Lib.hid (na1.tch ((Below.refl _ _).alloc (Nat.le_refl _) (.cells (madeCells #[.int .u8 0] n) 5)))
        have NB1 := Lib.hid ((nums_made w3 n).tch ((Below.refl _ _).alloc (Nat.le_refl _) (.cells (byts [IntKind.u8.wrap (IntKind.i64.wrap (97 + (f : Int)))]).toArray 5)))
        have NB2 := Lib.hid nb2
        have IA := Lib.hid ((HI1.out.alloc (.cells (byts [IntKind.u8.wrap (IntKind.i64.wrap (97 + (f : Int)))]).toArray 5)).alloc (.cells (madeCells #[.int .u8 0] n) 5))
        have IB := Lib.hid ((HI1.out.alloc (.cells (madeCells #[.int .u8 0] n) 5)).alloc (.cells (byts [IntKind.u8.wrap (IntKind.i64.wrap (97 + (f : Int)))]).toArray 5))
        clear hwr hcase hbb x0 x1 x2 x3 na1 na2 nb2 e1 e2
        go_cut [12] from 53 to 61 (fun t wx => t = .int .i64 r ∧ IF w wx p g σ' (k + 1) L)
        case first =>
          refine wp_region_held_drew (S := fun _ => True) (by kernel_rfl) trivial (fun hHeld => ?_)
          refine wpAnyH_take (i := 0) (v := ?vr0) rfl (by kernel_rfl) (by kernel_rfl) (by kernel_rfl) (fun _ _ _ h => h) (Or.inl ⟨by rfl, ?yr0⟩) hHeld ?rr0
          case yr0 => (intro W hW; go_simp; first | done | with_reducible rfl)
          try simp only [List.getElem_toArray, List.getElem_cons_zero, Act.put, List.setIfInBounds_toArray, List.set_cons_zero, List.set_cons_succ]
          refine wpAnyH_take (i := 1) (v := ?vr1) rfl (by kernel_rfl) (by kernel_rfl) (by kernel_rfl) (fun _ _ _ h => h) (Or.inl ⟨by rfl, ?yr1⟩) hHeld ?rr1
          case yr1 => (intro W hW; go_simp; first | done | with_reducible rfl)
          try simp only [List.getElem_toArray, List.getElem_cons_succ, List.getElem_cons_zero, Act.put, List.setIfInBounds_toArray, List.set_cons_zero, List.set_cons_succ]
          refine wpAnyH_take (i := 2) (v := ?vr2) rfl (by kernel_rfl) (by kernel_rfl) (by kernel_rfl) (fun _ _ _ h => h) (Or.inl ⟨by rfl, ?yr2⟩) hHeld ?rr2
          case yr2 => (intro W hW; go_simp; first | done | with_reducible rfl)
          try simp only [List.getElem_toArray, List.getElem_cons_succ, List.getElem_cons_zero, Act.put, List.setIfInBounds_toArray, List.set_cons_zero, List.set_cons_succ]
          refine wpAnyH_take (i := 3) (v := ?vr3) rfl (by kernel_rfl) (by kernel_rfl) (by kernel_rfl) (fun _ _ _ h => h) (Or.inl ⟨by rfl, ?yr3⟩) hHeld ?rr3
          case yr3 => (intro W hW; go_simp; first | done | with_reducible rfl)
          try simp only [List.getElem_toArray, List.getElem_cons_succ, List.getElem_cons_zero, Act.put, List.setIfInBounds_toArray, List.set_cons_zero, List.set_cons_succ]
          refine wpAnyH_take (i := 6) (v := ?vr6) rfl (by kernel_rfl) (by kernel_rfl) (by kernel_rfl) (fun _ _ _ h => h) (Or.inl ⟨by rfl, ?yr6⟩) hHeld ?rr6
          case yr6 => (intro W hW; go_simp; first | done | with_reducible rfl)
          try simp only [List.getElem_toArray, List.getElem_cons_succ, List.getElem_cons_zero, Act.put, List.setIfInBounds_toArray, List.set_cons_zero, List.set_cons_succ]
          try simp only [List.getElem_toArray, List.getElem_cons_succ, List.getElem_cons_zero, Act.put, List.setIfInBounds_toArray, List.set_cons_zero, List.set_cons_succ]
          refine wpAnyH_ready (rs := [4, 7]) (by kernel_rfl) (by simp) ?_
          refine AllReadyH.cons rfl (fun K hK => ?_) (AllReadyH.cons rfl (fun K hK => ?_) (AllReadyH.nil))
          · go_simp
            refine hK.out _ _ trivial (fun hHeld => ?_)
            clear hK K
            try simp only [List.getElem_toArray, List.getElem_cons_succ, List.getElem_cons_zero, Act.put, List.setIfInBounds_toArray, List.set_cons_zero, List.set_cons_succ]
            refine wpAnyH_ready (rs := [5, 7]) (by kernel_rfl) (by simp) ?_
            refine AllReadyH.cons rfl (fun K hK => ?_) (AllReadyH.cons rfl (fun K hK => ?_) (AllReadyH.nil))
            · have hcv := hcvA (w3.alloc (.cells #[.int .u8 (IntKind.u8.wrap (IntKind.i64.wrap (97 + (f : Int))))] 5)).drew w3.heap.size (NA1.out.drewN 1)
              go_simp
              try rw [hcv]
              try go_simp
              clear hcv
              refine hK.out _ _ trivial (fun hHeld => ?_)
              clear hK K
              try simp only [List.getElem_toArray, List.getElem_cons_succ, List.getElem_cons_zero, Act.put, List.setIfInBounds_toArray, List.set_cons_zero, List.set_cons_succ]
              refine wpAnyH_ready (rs := [7]) (by kernel_rfl) (by simp) ?_
              refine AllReadyH.cons rfl (fun K hK => ?_) (AllReadyH.nil)
              go_simp
              try (rw [km]; go_simp)
              refine hK.out _ _ trivial (fun hHeld => ?_)
              clear hK K
              try simp only [List.getElem_toArray, List.getElem_cons_succ, List.getElem_cons_zero, Act.put, List.setIfInBounds_toArray, List.set_cons_zero, List.set_cons_succ]
              refine wpAnyH_ready (rs := [8]) (by kernel_rfl) (by simp) ?_
              refine AllReadyH.cons rfl (fun K hK => ?_) (AllReadyH.nil)
              go_simp
              refine ((IA.out.drewN 1).write (nm1 f) (some ⟨w3.heap.size + 1, 0, none⟩) n n (List.replicate n 0) r (by simp [nm1]) (by omega) (NA2.out.drewN 1) (by omega) (Nat.le_refl _) (by omega) Hwr.out).mono ?_
              rintro e w8 ⟨rfl, hI8⟩
              have HI8 := Lib.hid hI8
              clear hI8
              go_wp2_with fail
              refine hK.out _ _ trivial (fun hHeld => ?_)
              clear hK K
              try simp only [List.getElem_toArray, List.getElem_cons_succ, List.getElem_cons_zero, Act.put, List.setIfInBounds_toArray, List.set_cons_zero, List.set_cons_succ]
              refine wpAnyH_take (i := 9) (v := ?va9) rfl (by kernel_rfl) (by kernel_rfl) (by kernel_rfl) (fun _ _ _ h => h) (Or.inl ⟨by rfl, ?ya9⟩) hHeld ?ra9
              case ya9 => (intro W hW; go_simp; first | done | with_reducible rfl)
              try simp only [List.getElem_toArray, List.getElem_cons_succ, List.getElem_cons_zero, Act.put, List.setIfInBounds_toArray, List.set_cons_zero, List.set_cons_succ]
              refine wpAnyH_done (by kernel_rfl) ?_ _
              go_wp2
              go_meet
              exact ⟨rfl, HI8.out⟩
            · go_simp
              try (rw [km]; go_simp)
              refine hK.out _ _ trivial (fun hHeld => ?_)
              clear hK K
              try simp only [List.getElem_toArray, List.getElem_cons_succ, List.getElem_cons_zero, Act.put, List.setIfInBounds_toArray, List.set_cons_zero, List.set_cons_succ]
              refine wpAnyH_ready (rs := [5]) (by kernel_rfl) (by simp) ?_
              refine AllReadyH.cons rfl (fun K hK => ?_) (AllReadyH.nil)
              have hcv := hcvA ((w3.alloc (.cells #[.int .u8 (IntKind.u8.wrap (IntKind.i64.wrap (97 + (f : Int))))] 5)).alloc (.cells (madeCells #[.int .u8 0] n) 5)).drew w3.heap.size (NA3.out.drewN 1)
              go_simp
              try rw [hcv]
              try go_simp
              clear hcv
              refine hK.out _ _ trivial (fun hHeld => ?_)
              clear hK K
              try simp only [List.getElem_toArray, List.getElem_cons_succ, List.getElem_cons_zero, Act.put, List.setIfInBounds_toArray, List.set_cons_zero, List.set_cons_succ]
              refine wpAnyH_ready (rs := [8]) (by kernel_rfl) (by simp) ?_
              refine AllReadyH.cons rfl (fun K hK => ?_) (AllReadyH.nil)
              go_simp
              refine ((IA.out.drewN 1).write (nm1 f) (some ⟨w3.heap.size + 1, 0, none⟩) n n (List.replicate n 0) r (by simp [nm1]) (by omega) (NA2.out.drewN 1) (by omega) (Nat.le_refl _) (by omega) Hwr.out).mono ?_
              rintro e w8 ⟨rfl, hI8⟩
              have HI8 := Lib.hid hI8
              clear hI8
              go_wp2_with fail
              refine hK.out _ _ trivial (fun hHeld => ?_)
              clear hK K
              try simp only [List.getElem_toArray, List.getElem_cons_succ, List.getElem_cons_zero, Act.put, List.setIfInBounds_toArray, List.set_cons_zero, List.set_cons_succ]
              refine wpAnyH_take (i := 9) (v := ?vb9) rfl (by kernel_rfl) (by kernel_rfl) (by kernel_rfl) (fun _ _ _ h => h) (Or.inl ⟨by rfl, ?yb9⟩) hHeld ?rb9
              case yb9 => (intro W hW; go_simp; first | done | with_reducible rfl)
              try simp only [List.getElem_toArray, List.getElem_cons_succ, List.getElem_cons_zero, Act.put, List.setIfInBounds_toArray, List.set_cons_zero, List.set_cons_succ]
              refine wpAnyH_done (by kernel_rfl) ?_ _
              go_wp2
              go_meet
              exact ⟨rfl, HI8.out⟩
          · go_simp
            try (rw [km]; go_simp)
            refine hK.out _ _ trivial (fun hHeld => ?_)
            clear hK K
            try simp only [List.getElem_toArray, List.getElem_cons_succ, List.getElem_cons_zero, Act.put, List.setIfInBounds_toArray, List.set_cons_zero, List.set_cons_succ]
            refine wpAnyH_ready (rs := [4]) (by kernel_rfl) (by simp) ?_
            refine AllReadyH.cons rfl (fun K hK => ?_) (AllReadyH.nil)
            go_simp
            refine hK.out _ _ trivial (fun hHeld => ?_)
            clear hK K
            try simp only [List.getElem_toArray, List.getElem_cons_succ, List.getElem_cons_zero, Act.put, List.setIfInBounds_toArray, List.set_cons_zero, List.set_cons_succ]
            refine wpAnyH_ready (rs := [5]) (by kernel_rfl) (by simp) ?_
            refine AllReadyH.cons rfl (fun K hK => ?_) (AllReadyH.nil)
            have hcv := hcvA ((w3.alloc (.cells (madeCells #[.int .u8 0] n) 5)).alloc (.cells #[.int .u8 (IntKind.u8.wrap (IntKind.i64.wrap (97 + (f : Int))))] 5)).drew (w3.heap.size + 1) (NB2.out.drewN 1)
            go_simp
            try rw [hcv]
            try go_simp
            clear hcv
            refine hK.out _ _ trivial (fun hHeld => ?_)
            clear hK K
            try simp only [List.getElem_toArray, List.getElem_cons_succ, List.getElem_cons_zero, Act.put, List.setIfInBounds_toArray, List.set_cons_zero, List.set_cons_succ]
            refine wpAnyH_ready (rs := [8]) (by kernel_rfl) (by simp) ?_
            refine AllReadyH.cons rfl (fun K hK => ?_) (AllReadyH.nil)
            go_simp
            refine ((IB.out.drewN 1).write (nm1 f) (some ⟨w3.heap.size, 0, none⟩) n n (List.replicate n 0) r (by simp [nm1]) (by omega) (NB1.out.drewN 1) (by omega) (Nat.le_refl _) (by omega) Hwr.out).mono ?_
            rintro e w8 ⟨rfl, hI8⟩
            have HI8 := Lib.hid hI8
            clear hI8
            go_wp2_with fail
            refine hK.out _ _ trivial (fun hHeld => ?_)
            clear hK K
            try simp only [List.getElem_toArray, List.getElem_cons_succ, List.getElem_cons_zero, Act.put, List.setIfInBounds_toArray, List.set_cons_zero, List.set_cons_succ]
            refine wpAnyH_take (i := 9) (v := ?vc9) rfl (by kernel_rfl) (by kernel_rfl) (by kernel_rfl) (fun _ _ _ h => h) (Or.inl ⟨by rfl, ?yc9⟩) hHeld ?rc9
            case yc9 => (intro W hW; go_simp; first | done | with_reducible rfl)
            try simp only [List.getElem_toArray, List.getElem_cons_succ, List.getElem_cons_zero, Act.put, List.setIfInBounds_toArray, List.set_cons_zero, List.set_cons_succ]
            refine wpAnyH_done (by kernel_rfl) ?_ _
            go_wp2
            go_meet
            exact ⟨rfl, HI8.out⟩
        case rest =>
          obtain ⟨rfl, hI8⟩ := hcut
          rename World => wx
          have xf := hI8.cell hf3
          have hfr := hI8.arr.frozen f
          have j0 : (0 : Int) ≤ (f : Int) := by omega
          have j1 : (f : Int) < 4 := by omega
          have HI8 := Lib.hid hI8
          have HI9 := Lib.hid (hI8.set_ hf3 n)
          rcases Hcase.out with ⟨rfl, hG2, hfit⟩ | ⟨rfl, rfl, hfit⟩
          · have hd : decide ((L 0 : Int) + L 1 + L 2 + L 3 - L f + n ≤ lim) = true := by simpa using hfit
            have HG2 := Lib.hid hG2
            clear hG2 hI8 Hcase Hwr hfit NA1 NA2 NA3 NB1 NB2 IA IB hcvA km
            clear xf hfr
            have xf := HI8.out.cell hf3
            have hfr := HI8.out.arr.frozen f
            go_wp2_with fail
            clear xf hfr u0 u1 u2 u3 uf Hu Hle HG HI8
            generalize wx.setCell ⟨g, f, none⟩ (.int .i64 (n : Int)) = wy at HI9 ⊢
            generalize upd L f n = L2 at HI9 HG2
            have y0 := HI9.out.cell (f := 0) (by omega)
            have y1 := HI9.out.cell (f := 1) (by omega)
            have y2 := HI9.out.cell (f := 2) (by omega)
            have y3 := HI9.out.cell (f := 3) (by omega)
            have hu := HG2.out.used
            have hle := HG2.out.le
            have v0 : (L2 0 : Int) ≤ 99 := by omega
            have v1 : (L2 1 : Int) ≤ 99 := by omega
            have v2 : (L2 2 : Int) ≤ 99 := by omega
            have v3 : (L2 3 : Int) ≤ 99 := by omega
            have hd2 : decide (lim < (L2 0 : Int) + L2 1 + L2 2 + L2 3) = false := by simp; omega
            have g3 := fun m => Calls.quiet_of_same (n := m) ((HI9.out.drewN m).used)
            rw [show (usedF σ'.fs : Int) = (L2 0 : Int) + L2 1 + L2 2 + L2 3 from by omega] at g3
            have G3 := Lib.hid g3
            clear g3 hu hle hd
            go_quiet (first | with_reducible exact G3.out _)
            go_wp2
            exact ⟨⟨k + 1, σ', L2, by omega, by omega, by go_num, HI9.out.drewN _, HG2.out⟩, by simp [intOf]; omega⟩
          · have hd : decide ((L 0 : Int) + L 1 + L 2 + L 3 - L f + n ≤ lim) = false := by simpa using hfit
            clear hI8 Hcase Hwr hfit NA1 NA2 NA3 NB1 NB2 IA IB hcvA km HI9
            clear xf hfr
            have xf := HI8.out.cell hf3
            go_wp2_with fail
            clear xf u0 u1 u2 u3 uf Hu Hle
            have y0 := HI8.out.cell (f := 0) (by omega)
            have y1 := HI8.out.cell (f := 1) (by omega)
            have y2 := HI8.out.cell (f := 2) (by omega)
            have y3 := HI8.out.cell (f := 3) (by omega)
            have hu := HG.out.used
            have hle := HG.out.le
            have v0 : (L 0 : Int) ≤ 99 := by omega
            have v1 : (L 1 : Int) ≤ 99 := by omega
            have v2 : (L 2 : Int) ≤ 99 := by omega
            have v3 : (L 3 : Int) ≤ 99 := by omega
            have hd2 : decide (lim < (L 0 : Int) + L 1 + L 2 + L 3) = false := by simp; omega
            have g3 := fun m => Calls.quiet_of_same (n := m) ((HI8.out.drewN m).used)
            rw [show (usedF σ'.fs : Int) = (L 0 : Int) + L 1 + L 2 + L 3 from by omega] at g3
            have G3 := Lib.hid g3
            clear g3 hu hle hd
            go_quiet (first | with_reducible exact G3.out _)
            go_wp2
            exact ⟨⟨k + 1, σ', L, by omega, by omega, by go_num, HI8.out.drewN _, HG.out⟩, by simp [intOf]; omega⟩
      · have d40 : decide ((k : Int) < 40) = false := by simp; omega
        go_wp2
        go_ret
        exact ⟨rfl, HI.out.bel⟩
    · go_wp2
      go_ret
      exact ⟨rfl, HI.out.bel⟩
end Go.Proofs.Ytiebmilmeimpiaa
