/- The walk of the document's own head (reference): what stands ahead of the rows. -/
import Derived.Test.YtnabmbnfmnpcoaaHeadPure
import Derived.Test.YtnabmbnfmnpcoaaRefCheck
import Derived.Test.YtnabmbnfmnpcoaaRefBack
import Derived.Test.YtnabmbnfmnpcoaaRefEncode
import Derived.Test.YtnabmbnfmnpcoaaRegion
import Derived.Test.YtnabmbnfmnpcoaaRowsX
import Derived.Deep.RegionLaw
import Derived.BigRegion
import Derived.IntWalk
import Derived.Deep.CutRange
namespace Go.Proofs.Ytnabmbnfmnpcoaa
open Go.RowKit
theorem mark_list : (strOf [67, 85, 66, 49]).toList = [67, 85, 66, 49] := by rw [strOf_list]; rfl
theorem mark_ne {xs : List Int} (hk : Bytes xs) (h : xs.take 4 ≠ [67, 85, 66, 49]) : ((strOf (xs.take 4)).toList == [67, 85, 66, 49]) = false := by
  have := strOf_beq (xs := xs.take 4) (ys := [67, 85, 66, 49]) (fun x hx => hk x (List.mem_of_mem_take hx)) (by intro x hx; simp at hx; omega)
  rwa [mark_list, decide_eq_false h] at this
theorem mark_eq {xs : List Int} (h : xs.take 4 = [67, 85, 66, 49]) : ((strOf (xs.take 4)).toList == [67, 85, 66, 49]) = true := by
  rw [h, mark_list]; rfl
theorem ahead_ways {xs : List Int} (h : ahead xs = false) : xs.length < 5 ∨ (5 ≤ xs.length ∧ xs.take 4 ≠ [67, 85, 66, 49]) ∨ (5 ≤ xs.length ∧ xs.take 4 = [67, 85, 66, 49] ∧ 4 < hDims xs) ∨ (5 ≤ xs.length ∧ xs.take 4 = [67, 85, 66, 49] ∧ hDims xs ≤ 4 ∧ xs.length < 8 + hDims xs) := by
  by_cases h1 : 5 ≤ xs.length
  · by_cases h2 : xs.take 4 = [67, 85, 66, 49]
    · by_cases h3 : hDims xs ≤ 4
      · by_cases h4 : 8 + hDims xs ≤ xs.length
        · rw [ahead, decide_eq_true h1, decide_eq_true h2, decide_eq_true h3, decide_eq_true h4] at h; cases h
        · exact .inr (.inr (.inr ⟨h1, h2, h3, by omega⟩))
      · exact .inr (.inr (.inl ⟨h1, h2, by omega⟩))
    · exact .inr (.inl ⟨h1, h2⟩)
  · exact .inl (by omega)
def zeroHead : Value := .tuple #[.agg #[.slice none 0 0, .int .i64 0], .int .i64 0, .slice none 0 0, .bool false]
set_option maxRecDepth 100000 in
set_option maxHeartbeats 8000000 in
theorem head_no (A : Option Addr) (n c : Nat) (xs : List Int) (w : World) (hx : Nums .u8 w A n xs) (hc : n ≤ c) (hcm : c ≤ 9223372036854775807) (h : ahead xs = false) :
    Calls Try.prog 30 #[.slice A n c] w fun e w' => e = .returned zeroHead ∧ Below w.heap.size w w' := by
  have hn : xs.length = n := hx.len
  have hxb : Bytes xs := hx.ok
  have hways := ahead_ways h
  rw [hn] at hways
  have Hn := Lib.hid hn
  have hb := (Below.refl w.heap.size w).alloc (Nat.le_refl _) (.cells #[.slice none 0 0, .int .i64 0] 24)
  have hbox := Box2.new w 24 (.slice none 0 0) (.int .i64 0)
  clear hn h
  have c0 := hbox.cell0
  have c1 := hbox.cell1
  have f0 := hbox.frozen 0
  have f1 := hbox.frozen 1
  rcases hways with h5 | ⟨h5, hm⟩ | hrest
  · go_enter Try.func30, Try.ntmps30
    go_wp2
    exact bodyPost_ret (v := zeroHead) (by simp [results, Try.results30, zeroHead, go_sem, c0, c1]) rfl ⟨rfl, hb⟩
  · obtain ⟨ad, rfl, -⟩ := hx.2.2 (by omega)
    have kc := conv_str (P := Try.prog) 36 9 5 Try.underlying36 Try.underlying5 Try.underlying9 (w.alloc (.cells #[.slice none 0 0, .int .i64 0] 24)) (some ad) 4 c (xs.take 4) ((hx.keep (Keeps.of_below hb)).take 4 (by omega))
    have hne := mark_ne hxb hm
    have h45 : (4 : Int) ≤ (c : Int) := by omega
    have hd5 : decide ((n : Int) < 5) = false := by simp; omega
    clear hm
    go_enter Try.func30, Try.ntmps30
    go_wp2
    exact bodyPost_ret (v := zeroHead) (by simp [results, Try.results30, zeroHead, go_sem, c0, c1]) rfl ⟨rfl, hb⟩
  · have hrest' : (5 ≤ n ∧ xs.take 4 = [67, 85, 66, 49]) ∧ (4 < hDims xs ∨ hDims xs ≤ 4 ∧ n < 8 + hDims xs) := by
      rcases hrest with ⟨h1, h2, h3⟩ | ⟨h1, h2, h3, h4⟩
      · exact ⟨⟨h1, h2⟩, .inl h3⟩
      · exact ⟨⟨h1, h2⟩, .inr ⟨h3, h4⟩⟩
    obtain ⟨⟨h5, hm⟩, hr⟩ := hrest'
    obtain ⟨ad, x, rfl, hx4, ⟨hx1, hx2⟩, hxc⟩ := hx.at_ (k := 4) (by omega)
    obtain ⟨d, rfl⟩ := Int.eq_ofNat_of_zero_le hx1
    rw [hDims_at hx4] at hr
    have kc := conv_str (P := Try.prog) 36 9 5 Try.underlying36 Try.underlying5 Try.underlying9 (w.alloc (.cells #[.slice none 0 0, .int .i64 0] 24)) (some ad) 4 c (xs.take 4) ((hx.keep (Keeps.of_below hb)).take 4 (by omega))
    have hne := mark_eq hm
    have h45 : (4 : Int) ≤ (c : Int) := by omega
    have hd5 : decide ((n : Int) < 5) = false := by simp; omega
    have h46 : (4 : Int) < (n : Int) := by omega
    have hxc2 : (w.alloc (.cells #[.slice none 0 0, .int .i64 0] 24)).cell? ⟨ad.block, ad.off + 4, none⟩ = some (.int .u8 d) := (Keeps.of_below hb) _ _ hxc
    clear hm hx4 hrest
    rcases hr with h3 | ⟨h3, h4⟩
    all_goals
      go_enter Try.func30, Try.ntmps30
      go_wp2
      exact bodyPost_ret (v := zeroHead) (by simp [results, Try.results30, zeroHead, go_sem, c0, c1]) rfl ⟨rfl, hb⟩
theorem Only.cell {g : Nat} {w w' : World} (h : Only g w w') {p : Addr} {v : Value} (hp : w.cell? p = some v) (hne : p.block ≠ g) : w'.cell? p = some v :=
  (World.cell?_of_block (h.block p.block (block_lt hp) hne)).trans hp
theorem wrap_is (x : Int) : IntKind.i64.wrap x = wrap64 x := by rw [IntKind.wrap_i64]; unfold wrap64; omega
/-- What head leaves where it may be read. -/
def RHeadPost (xs : List Int) (ad : Addr) (n c : Nat) (w : World) (e : Ending) (w' : World) : Prop :=
  ∃ A cc Ar, e = .returned (.tuple #[.agg #[.slice A (hDims xs) cc, .int .i64 (hMeas xs)], .int .i64 (hRows xs), .slice (some Ar) (n - (8 + hDims xs)) (c - (8 + hDims xs)), .bool (checkB (hCards xs) (hMeas xs))]) ∧
    Nums .i64 w' A (hDims xs) (hCards xs) ∧ Tail ad Ar n (8 + hDims xs) xs ∧ Below w.heap.size w w' ∧ ∀ a : Addr, A = some a → w.heap.size < a.block
set_option maxRecDepth 100000 in
set_option maxHeartbeats 8000000 in
theorem head_yes (ad : Addr) (n c : Nat) (xs : List Int) (w : World) (hx : Nums .u8 w (some ad) n xs) (hc : n ≤ c) (hcm : c ≤ 9223372036854775807) (h : ahead xs = true) :
    Calls Try.prog 30 #[.slice (some ad) n c] w (RHeadPost xs ad n c w) := by
  have hn : xs.length = n := hx.len
  have hxb : Bytes xs := hx.ok
  obtain ⟨h1, h2, h3, h4⟩ := ahead_yes h
  obtain ⟨d, hd⟩ : ∃ d, hDims xs = d := ⟨_, rfl⟩
  rw [hn] at h1 h4
  rw [hd] at h3 h4
  obtain ⟨_, x, e, hx4, ⟨hx1, hx2⟩, hxc⟩ := hx.at_ (k := 4) (by omega)
  injection e with e
  subst e
  have hxd : x = (d : Int) := by
    obtain ⟨d', rfl⟩ := Int.eq_ofNat_of_zero_le hx1
    rw [← hd, hDims_at hx4]
  subst hxd
  have cell : ∀ (k : Nat), 0 < k → k < n → ∃ y, xs[k]? = some y ∧ 0 ≤ y ∧ y ≤ 255 ∧ ∀ W, Below w.heap.size w W → W.cell? (ad.add k) = some (.int .u8 y) := fun k h0 hk => by
    obtain ⟨_, y, e, hy, ⟨hy1, hy2⟩, hyc⟩ := hx.at_ hk
    injection e with e
    subst e
    exact ⟨y, hy, hy1, hy2, fun W hb => (Keeps.of_below hb) _ _ hyc⟩
  have hb := (Below.refl w.heap.size w).alloc (Nat.le_refl _) (.cells #[.slice none 0 0, .int .i64 0] 24)
  have kc := conv_str (P := Try.prog) 36 9 5 Try.underlying36 Try.underlying5 Try.underlying9 (w.alloc (.cells #[.slice none 0 0, .int .i64 0] 24)) (some ad) 4 c (xs.take 4) ((hx.keep (Keeps.of_below hb)).take 4 (by omega))
  have hne := mark_eq h2
  obtain ⟨me, hme, hme1, hme2, hmec⟩ := cell (5 + d) (by omega) (by omega)
  have e4 := cell 4 (by omega) (by omega)
  obtain ⟨x4, hx4', -, -, hx4c⟩ := e4
  have hx4e : x4 = (d : Int) := by rw [hx4] at hx4'; injection hx4' with h; exact h.symm
  subst hx4e
  have c4 : (w.alloc (.cells #[.slice none 0 0, .int .i64 0] 24)).cell? ⟨ad.block, ad.off + 4, none⟩ = some (.int .u8 d) := hx4c _ hb
  have c5 := hmec _ hb
  have h45 : (4 : Int) ≤ (c : Int) := by omega
  have hd5 : decide ((n : Int) < 5) = false := by simp; omega
  have h46 : (4 : Int) < (n : Int) := by omega
  have h47 : ¬ (4 : Int) < (d : Int) := by omega
  have h48 : ¬ (n : Int) < 8 + (d : Int) := by omega
  have h49 : 5 + (d : Int) < (n : Int) := by omega
  have Cell := Lib.hid cell
  have Hd := Lib.hid hd
  have Hme := Lib.hid hme
  have Hn := Lib.hid hn
  have Hx := Lib.hid hx
  clear hx4 hx4' hx4c hmec cell hd hme h h2 hn hxc hx
  go_enter Try.func30, Try.ntmps30
  go_wp2
  obtain ⟨S, hS⟩ : ∃ S, S = w.heap.size + 1 := ⟨_, rfl⟩
  have hs1 : Box2 24 ((w.alloc (.cells #[.slice none 0 0, .int .i64 0] 24)).alloc (.cells #[.slice none 0 0, .int .i64 me] 24)) S (.slice none 0 0) (.int .i64 me) := heap_new _ _ S (by simp [hS])
  have hs0 : Box2 24 ((w.alloc (.cells #[.slice none 0 0, .int .i64 0] 24)).alloc (.cells #[.slice none 0 0, .int .i64 me] 24)) w.heap.size (.slice none 0 0) (.int .i64 0) := (Box2.new w 24 _ _).alloc _
  have hsb : Below w.heap.size w ((w.alloc (.cells #[.slice none 0 0, .int .i64 0] 24)).alloc (.cells #[.slice none 0 0, .int .i64 me] 24)) := ((Below.refl _ _).alloc (Nat.le_refl _) _).alloc (by simp) _
  have hsz : ((w.alloc (.cells #[.slice none 0 0, .int .i64 0] 24)).alloc (.cells #[.slice none 0 0, .int .i64 me] 24)).heap.size = S + 1 := by simp [hS]
  rw [← hS]
  clear c4 c5 kc hb
  generalize (w.alloc _).alloc _ = w2 at hs1 hs0 hsb hsz ⊢
  have Hsb := Lib.hid hsb
  have Hsz := Lib.hid hsz
  have hS1 : w.heap.size < S := by omega
  have HS := Lib.hid hS
  clear hsb hsz hS
  go_loopw [8] (fun i wr => ∃ k : Nat, k ≤ d ∧ i = .int .i64 k ∧ ∃ cv, Box2 24 wr S cv (.int .i64 me) ∧ wr.ownsRow (S + 1) 3 1 cv ((xs.drop 5).take k).length (ints ((xs.drop 5).take k)) ∧ Box2 24 wr w.heap.size (.slice none 0 0) (.int .i64 0) ∧ Below w.heap.size w wr ∧ S < wr.heap.size) (fun i _ => d - (intOf i).toNat)
  case atStart => exact ⟨0, by omega, rfl, _, hs1, World.ownsRow_nil _ _ _ _, hs0, Hsb.out, by rw [Hsz.out]; omega⟩
  case round =>
    obtain ⟨k, hk, rfl, cv, b1, o1, b0, hb, hz⟩ := hrel
    clear hs1 hs0
    have c0 := b1.cell0
    have B1 := Lib.hid b1
    have B0 := Lib.hid b0
    have O1 := Lib.hid o1
    have Hb := Lib.hid hb
    clear b1 b0 hb
    by_cases hlt : k < d
    · obtain ⟨y, hy, hy1, hy2, hyc0⟩ := Cell.out (5 + k) (by omega) (by omega)
      have hyc := hyc0 wr Hb.out
      have hyd : (xs.drop 5)[k]? = some y := by rw [List.getElem?_drop]; exact hy
      obtain ⟨v', w', hrun, ho', hgr⟩ := append_int wr.drew (S + 1) cv ((xs.drop 5).take k) y wr.heap.size rfl o1 (by rw [List.length_take]; omega) (by exact hz)
      rw [← take_snoc hyd] at ho'
      obtain ⟨A', c', hv', -⟩ := own_form ho'
      obtain ⟨n', hn'⟩ : ∃ n', n' = ((xs.drop 5).take (k + 1)).length := ⟨_, rfl⟩
      rw [← hn'] at hv'
      subst hv'
      have hg1 : Box2 24 (wr.drew.alloc (.cells #[.int .i64 y] 3)) S cv (.int .i64 me) := B1.out.alloc _
      have hg0 : Box2 24 (wr.drew.alloc (.cells #[.int .i64 y] 3)) w.heap.size (.slice none 0 0) (.int .i64 0) := B0.out.alloc _
      have hgo : (wr.drew.alloc (.cells #[.int .i64 y] 3)).ownsRow (S + 1) 3 1 cv ((xs.drop 5).take k).length (ints ((xs.drop 5).take k)) := O1.out.alloc _
      have hgb : Below w.heap.size w (wr.drew.alloc (.cells #[.int .i64 y] 3)) := (below_drewN Hb.out 1).alloc (Nat.le_of_lt (by exact Nat.lt_trans hS1 hz)) _
      have hgz : S < (wr.drew.alloc (.cells #[.int .i64 y] 3)).heap.size := by rw [show (wr.drew.alloc (.cells #[.int .i64 y] 3)).heap.size = wr.heap.size + 1 from by simp]; omega
      have b1' := hg1.grown hgr hgo (by decide)
      have hend : Box2 24 (w'.setCell ⟨S, 0, none⟩ (.slice A' n' c')) S (.slice A' n' c') (.int .i64 me) ∧ (w'.setCell ⟨S, 0, none⟩ (.slice A' n' c')).ownsRow (S + 1) 3 1 (.slice A' n' c') ((xs.drop 5).take (k + 1)).length (ints ((xs.drop 5).take (k + 1))) ∧
          Box2 24 (w'.setCell ⟨S, 0, none⟩ (.slice A' n' c')) w.heap.size (.slice none 0 0) (.int .i64 0) ∧ Below w.heap.size w (w'.setCell ⟨S, 0, none⟩ (.slice A' n' c')) ∧ S < (w'.setCell ⟨S, 0, none⟩ (.slice A' n' c')).heap.size := by
        refine ⟨b1'.set0 _, own_box ho' b1' (by decide) _ _, (hg0.grown hgr hgo (by decide)).only ((Only.refl S _).setCell 0 _) (by omega), ?_, ?_⟩
        · exact (hgb.grown hgr (by omega) fun j hj => by have := (hgo.lt j hj).1; omega).setCell (by exact Nat.le_of_lt hS1) _
        · have := hgr.size; simp [World.setCell]; omega
      have E := Lib.hid hend
      have c0' := b1'.cell0
      have f0' := b1'.frozen 0
      have Hrun := Lib.hid hrun
      have i1 : (0 : Int) ≤ 5 + (k : Int) := by omega
      have i2 : 5 + (k : Int) < (n : Int) := by omega
      have i3 : IntKind.i64.wrap (5 + (k : Int)) = 5 + (k : Int) := IntWalk.i64_in _ (by omega)
      have i4 : (5 + (k : Int)).toNat = 5 + k := by omega
      have i5 : IntKind.i64.wrap y = y := IntWalk.i64_in _ (by omega)
      clear hrun ho' hgr hy hyd o1 hn' hg1 hg0 hgo hgb hgz b1' hend hyc0
      go_upto_region 10 with (fail)
      go_region_law (first | (refine step_append_eq (by rfl) (.tmp 46) (.tmp 53) 22 (by rfl) cv (.slice (some ⟨wr.heap.size, 0, none⟩) 1 1) (.slice A' n' c') w' (by rfl) (by rfl) Hrun.out ?_) | fail)
      all_goals
        go_wp2
        exact ⟨⟨k + 1, by omega, by go_num, _, E.out⟩, by simp [intOf]; omega⟩
    · obtain rfl : d = k := by omega
      obtain ⟨y6, hy6, b61, b62, hc6⟩ := Cell.out (6 + d) (by omega) (by omega)
      obtain ⟨y7, hy7, b71, b72, hc7⟩ := Cell.out (7 + d) (by omega) (by omega)
      have hcs : hCards xs = (xs.drop 5).take d := hCards_at Hd.out h3 (by rw [Hn.out]; omega)
      have hms : hMeas xs = me := hMeas_at Hd.out h3 Hme.out
      have hrs : hRows xs = y6 * 256 + y7 := hRows_at Hd.out h3 hy6 hy7
      have hcl : ((xs.drop 5).take d).length = d := by rw [List.length_take, List.length_drop, Hn.out]; omega
      have hcb : ∀ x ∈ (xs.drop 5).take d, inK .i64 x := fun x hx => by
        have := hxb x (List.mem_of_mem_drop (List.mem_of_mem_take hx))
        simp only [inK]; omega
      obtain ⟨A, cc, hcv, -, -, hnc⟩ := own_nums O1.out hcb
      have hfar : ∀ a : Addr, A = some a → w.heap.size < a.block := fun a ea => by
        have := (own_blk O1.out a.block (by rw [hcv, ea]; simp [blk, Value.ownBlock])).1
        omega
      have HF := Lib.hid hfar
      clear hfar
      rw [hcl] at hcv hnc
      subst hcv
      have c1 := B1.out.cell1
      have c6 := hc6 wr Hb.out
      have c7 := hc7 wr Hb.out
      have HC := Lib.hid (rCheck_any A d cc ((xs.drop 5).take d) me wr.drew hnc (by omega) (by simp only [inK]; omega))
      have hor : bits .or .i64 (wrap64 (y6 * 256)) y7 = y6 * 256 + y7 := by rw [or_low y6 y7 b71 b72]; unfold wrap64; omega
      rw [← wrap_is] at hor
      have Hor := Lib.hid hor
      have hadR : ad.block < w.heap.size := by
        have h : w.cell? (ad.add (6 + d)) = some (.int .u8 y6) := hc6 w (Below.refl _ _)
        have := block_lt h
        rwa [block_of_add] at this
      have hSR : S ≠ w.heap.size := by omega
      have Hcs := Lib.hid hcs
      have Hms := Lib.hid hms
      have Hrs := Lib.hid hrs
      have Hnc := Lib.hid hnc
      have j1 : IntKind.i64.wrap (6 + (d : Int)) = 6 + (d : Int) := IntWalk.i64_in _ (by omega)
      have j2 : IntKind.i64.wrap (7 + (d : Int)) = 7 + (d : Int) := IntWalk.i64_in _ (by omega)
      have j3 : IntKind.i64.wrap (8 + (d : Int)) = 8 + (d : Int) := IntWalk.i64_in _ (by omega)
      have j4 : (0 : Int) ≤ 6 + (d : Int) := by omega
      have j5 : 6 + (d : Int) < (n : Int) := by omega
      have j6 : (6 + (d : Int)).toNat = 6 + d := by omega
      have j7 : (0 : Int) ≤ 7 + (d : Int) := by omega
      have j8 : 7 + (d : Int) < (n : Int) := by omega
      have j9 : (7 + (d : Int)).toNat = 7 + d := by omega
      have ja : IntKind.i64.wrap y6 = y6 := IntWalk.i64_in _ (by omega)
      have jb : IntKind.i64.wrap y7 = y7 := IntWalk.i64_in _ (by omega)
      have jd2 : 8 + d ≤ n := h4
      have jc : (0 : Int) ≤ 8 + (d : Int) := by omega
      have jd : 8 + (d : Int) ≤ (n : Int) := by omega
      have je : (8 + (d : Int)).toNat = 8 + d := by omega
      clear hy6 hy7 hcs hms hrs hcl hcb hnc hor o1
      by_cases hcap : c = 8 + d
      · have hz0 : c - (8 + d) = 0 := by omega
        have Hz0 := Lib.hid hz0
        have hnn : n = 8 + d := by omega
        have hend : Tail ad ad n (8 + d) xs := by rw [← hnn]; exact Tail.end_ ad ad n xs
        clear hz0 hnn
        go_upto_region 11 with (fail)
        refine wp_region_held_drew (S := fun W => W.cell? ⟨S, 0, none⟩ = some (.slice A d cc) ∧ W.cell? ⟨S, 1, none⟩ = some (.int .i64 me) ∧ W.cell? (ad.add (6 + d)) = some (.int .u8 y6) ∧ W.cell? (ad.add (7 + d)) = some (.int .u8 y7)) (by kernel_rfl) ⟨c0, c1, c6, c7⟩ (fun hHeld => ?_)
        refine wpAnyH_take (i := 0) (v := ?vp0) rfl (by kernel_rfl) (by kernel_rfl) (by kernel_rfl) (fun _ _ _ h => h) (Or.inl ⟨by rfl, ?yp0⟩) hHeld ?rp0
        case yp0 => (intro W hW; obtain ⟨x1, x2, x3, x4⟩ := hW; go_simp; first | done | with_reducible rfl)
        try simp only [List.getElem_toArray, List.getElem_cons_zero, Act.put, List.setIfInBounds_toArray, List.set_cons_zero, List.set_cons_succ]
        refine wpAnyH_take (i := 1) (v := ?vp1) rfl (by kernel_rfl) (by kernel_rfl) (by kernel_rfl) (fun _ _ _ h => h) (Or.inl ⟨by rfl, ?yp1⟩) hHeld ?rp1
        case yp1 => (intro W hW; go_simp; first | done | with_reducible rfl)
        try simp only [List.getElem_toArray, List.getElem_cons_succ, List.getElem_cons_zero, Act.put, List.setIfInBounds_toArray, List.set_cons_zero, List.set_cons_succ]
        refine wpAnyH_take (i := 2) (v := ?vp2) rfl (by kernel_rfl) (by kernel_rfl) (by kernel_rfl) (fun _ _ _ h => h) (Or.inl ⟨by rfl, ?yp2⟩) hHeld ?rp2
        case yp2 => (intro W hW; go_simp; first | done | with_reducible rfl)
        try simp only [List.getElem_toArray, List.getElem_cons_succ, List.getElem_cons_zero, Act.put, List.setIfInBounds_toArray, List.set_cons_zero, List.set_cons_succ]
        refine wpAnyH_take (i := 3) (v := ?vp3) rfl (by kernel_rfl) (by kernel_rfl) (by kernel_rfl) (fun _ _ _ h => h) (Or.inl ⟨by rfl, ?yp3⟩) hHeld ?rp3
        case yp3 => (intro W hW; go_simp; first | done | with_reducible rfl)
        try simp only [List.getElem_toArray, List.getElem_cons_succ, List.getElem_cons_zero, Act.put, List.setIfInBounds_toArray, List.set_cons_zero, List.set_cons_succ]
        refine wpAnyH_take (i := 4) (v := ?vp4) rfl (by kernel_rfl) (by kernel_rfl) (by kernel_rfl) (fun _ _ _ h => h) (Or.inl ⟨by rfl, ?yp4⟩) hHeld ?rp4
        case yp4 => (intro W hW; go_simp; first | done | with_reducible rfl)
        try simp only [List.getElem_toArray, List.getElem_cons_succ, List.getElem_cons_zero, Act.put, List.setIfInBounds_toArray, List.set_cons_zero, List.set_cons_succ]
        refine wpAnyH_take (i := 5) (v := ?vp5) rfl (by kernel_rfl) (by kernel_rfl) (by kernel_rfl) (fun _ _ _ h => h) (Or.inl ⟨by rfl, ?yp5⟩) hHeld ?rp5
        case yp5 => (intro W hW; obtain ⟨x1, x2, x3, x4⟩ := hW; go_simp; first | done | with_reducible rfl)
        try simp only [List.getElem_toArray, List.getElem_cons_succ, List.getElem_cons_zero, Act.put, List.setIfInBounds_toArray, List.set_cons_zero, List.set_cons_succ]
        refine wpAnyH_take (i := 6) (v := ?vp6) rfl (by kernel_rfl) (by kernel_rfl) (by kernel_rfl) (fun _ _ _ h => h) (Or.inl ⟨by rfl, ?yp6⟩) hHeld ?rp6
        case yp6 => (intro W hW; go_simp; first | done | with_reducible rfl)
        try simp only [List.getElem_toArray, List.getElem_cons_succ, List.getElem_cons_zero, Act.put, List.setIfInBounds_toArray, List.set_cons_zero, List.set_cons_succ]
        refine wpAnyH_take (i := 7) (v := ?vp7) rfl (by kernel_rfl) (by kernel_rfl) (by kernel_rfl) (fun _ _ _ h => h) (Or.inl ⟨by rfl, ?yp7⟩) hHeld ?rp7
        case yp7 => (intro W hW; go_simp; first | done | with_reducible rfl)
        try simp only [List.getElem_toArray, List.getElem_cons_succ, List.getElem_cons_zero, Act.put, List.setIfInBounds_toArray, List.set_cons_zero, List.set_cons_succ]
        refine wpAnyH_take (i := 8) (v := ?vp8) rfl (by kernel_rfl) (by kernel_rfl) (by kernel_rfl) (fun _ _ _ h => h) (Or.inl ⟨by rfl, ?yp8⟩) hHeld ?rp8
        case yp8 => (intro W hW; go_simp; first | done | with_reducible rfl)
        try simp only [List.getElem_toArray, List.getElem_cons_succ, List.getElem_cons_zero, Act.put, List.setIfInBounds_toArray, List.set_cons_zero, List.set_cons_succ]
        refine wpAnyH_take (i := 9) (v := ?vp9) rfl (by kernel_rfl) (by kernel_rfl) (by kernel_rfl) (fun _ _ _ h => h) (Or.inl ⟨by rfl, ?yp9⟩) hHeld ?rp9
        case yp9 => (intro W hW; go_simp; first | done | with_reducible rfl)
        try simp only [List.getElem_toArray, List.getElem_cons_succ, List.getElem_cons_zero, Act.put, List.setIfInBounds_toArray, List.set_cons_zero, List.set_cons_succ]
        refine wpAnyH_take (i := 10) (v := ?vp10) rfl (by kernel_rfl) (by kernel_rfl) (by kernel_rfl) (fun _ _ _ h => h) (Or.inl ⟨by rfl, ?yp10⟩) hHeld ?rp10
        case yp10 => (intro W hW; go_simp; first | done | with_reducible rfl)
        try simp only [List.getElem_toArray, List.getElem_cons_succ, List.getElem_cons_zero, Act.put, List.setIfInBounds_toArray, List.set_cons_zero, List.set_cons_succ]
        refine wpAnyH_take (i := 11) (v := ?vp11) rfl (by kernel_rfl) (by kernel_rfl) (by kernel_rfl) (fun _ _ _ h => h) (Or.inl ⟨by rfl, ?yp11⟩) hHeld ?rp11
        case yp11 => (intro W hW; go_simp; first | done | with_reducible rfl)
        try simp only [List.getElem_toArray, List.getElem_cons_succ, List.getElem_cons_zero, Act.put, List.setIfInBounds_toArray, List.set_cons_zero, List.set_cons_succ]
        refine wpAnyH_take (i := 12) (v := ?vp12) rfl (by kernel_rfl) (by kernel_rfl) (by kernel_rfl) (fun _ _ _ h => h) (Or.inl ⟨by rfl, ?yp12⟩) hHeld ?rp12
        case yp12 => (intro W hW; obtain ⟨x1, x2, x3, x4⟩ := hW; go_simp; first | done | with_reducible rfl)
        try simp only [List.getElem_toArray, List.getElem_cons_succ, List.getElem_cons_zero, Act.put, List.setIfInBounds_toArray, List.set_cons_zero, List.set_cons_succ]
        refine wpAnyH_take (i := 13) (v := ?vp13) rfl (by kernel_rfl) (by kernel_rfl) (by kernel_rfl) (fun _ _ _ h => h) (Or.inl ⟨by rfl, ?yp13⟩) hHeld ?rp13
        case yp13 => (intro W hW; go_simp; first | done | with_reducible rfl)
        try simp only [List.getElem_toArray, List.getElem_cons_succ, List.getElem_cons_zero, Act.put, List.setIfInBounds_toArray, List.set_cons_zero, List.set_cons_succ]
        refine wpAnyH_take (i := 14) (v := ?vp14) rfl (by kernel_rfl) (by kernel_rfl) (by kernel_rfl) (fun _ _ _ h => h) (Or.inl ⟨by rfl, ?yp14⟩) hHeld ?rp14
        case yp14 => (intro W hW; go_simp; first | done | with_reducible rfl)
        try simp only [List.getElem_toArray, List.getElem_cons_succ, List.getElem_cons_zero, Act.put, List.setIfInBounds_toArray, List.set_cons_zero, List.set_cons_succ]
        refine wpAnyH_take (i := 15) (v := ?vp15) rfl (by kernel_rfl) (by kernel_rfl) (by kernel_rfl) (fun _ _ _ h => h) (Or.inl ⟨by rfl, ?yp15⟩) hHeld ?rp15
        case yp15 => (intro W hW; go_simp; first | done | with_reducible rfl)
        try simp only [List.getElem_toArray, List.getElem_cons_succ, List.getElem_cons_zero, Act.put, List.setIfInBounds_toArray, List.set_cons_zero, List.set_cons_succ]
        refine wpAnyH_take (i := 16) (v := ?vp16) rfl (by kernel_rfl) (by kernel_rfl) (by kernel_rfl) (fun _ _ _ h => h) (Or.inl ⟨by rfl, ?yp16⟩) hHeld ?rp16
        case yp16 => (intro W hW; go_simp; first | done | with_reducible rfl)
        try simp only [List.getElem_toArray, List.getElem_cons_succ, List.getElem_cons_zero, Act.put, List.setIfInBounds_toArray, List.set_cons_zero, List.set_cons_succ]
        refine wpAnyH_take (i := 17) (v := ?vp17) rfl (by kernel_rfl) (by kernel_rfl) (by kernel_rfl) (fun _ _ _ h => h) (Or.inl ⟨by rfl, ?yp17⟩) hHeld ?rp17
        case yp17 => (intro W hW; go_simp; first | done | with_reducible rfl)
        try simp only [List.getElem_toArray, List.getElem_cons_succ, List.getElem_cons_zero, Act.put, List.setIfInBounds_toArray, List.set_cons_zero, List.set_cons_succ]
        refine wpAnyH_take (i := 18) (v := ?vp18) rfl (by kernel_rfl) (by kernel_rfl) (by kernel_rfl) (fun _ _ _ h => h) (Or.inl ⟨by rfl, ?yp18⟩) hHeld ?rp18
        case yp18 => (intro W hW; go_simp; first | done | with_reducible rfl)
        try simp only [List.getElem_toArray, List.getElem_cons_succ, List.getElem_cons_zero, Act.put, List.setIfInBounds_toArray, List.set_cons_zero, List.set_cons_succ]
        refine wpAnyH_take (i := 19) (v := ?vp19) rfl (by kernel_rfl) (by kernel_rfl) (by kernel_rfl) (fun _ _ _ h => h) (Or.inl ⟨by rfl, ?yp19⟩) hHeld ?rp19
        case yp19 => (intro W hW; obtain ⟨x1, x2, x3, x4⟩ := hW; go_simp; first | done | with_reducible rfl)
        try simp only [List.getElem_toArray, List.getElem_cons_succ, List.getElem_cons_zero, Act.put, List.setIfInBounds_toArray, List.set_cons_zero, List.set_cons_succ]
        refine wpAnyH_ready (rs := [20]) (by kernel_rfl) (by simp) ?_
        refine AllReadyH.cons rfl (fun K hK => ?_) AllReadyH.nil
        go_simp
        refine HC.out.mono ?_
        rintro e w8 ⟨rfl, hb8⟩
        go_wp2_with fail
        refine hK.out _ _ ?_ (fun hHeld => ?_)
        · exact ⟨((B1.out.drewN 1).below hb8 B1.out.lt).cell0, ((B1.out.drewN 1).below hb8 B1.out.lt).cell1, (Keeps.of_below hb8) _ _ c6, (Keeps.of_below hb8) _ _ c7⟩
        clear hK K
        try simp only [List.getElem_toArray, List.getElem_cons_succ, List.getElem_cons_zero, Act.put, List.setIfInBounds_toArray, List.set_cons_zero, List.set_cons_succ]
        have b8 := (B0.out.drewN 1).below hb8 B0.out.lt
        have r0 := b8.cell0
        have r1 := b8.cell1
        have g0 := b8.frozen 0
        have g1 := b8.frozen 1
        have hon : Only w.heap.size w8 ((w8.setCell ⟨w.heap.size, 0, none⟩ (.slice A d cc)).setCell ⟨w.heap.size, 1, none⟩ (.int .i64 me)) := ((Only.refl _ _).setCell 0 _).setCell 1 _
        obtain ⟨hs1, hs2, hs3, hs4⟩ := hHeld
        have HBw : Below w.heap.size w w8 := (show Below w.heap.size w wr.drew from below_drewN Hb.out 1).trans (hb8.mono (by exact Hb.out.size))
        have t9 := (b8.set0 (.slice A d cc)).set1 (.int .i64 me)
        have hres : RHeadPost xs ad n c w (.returned (.tuple #[.agg #[.slice A d cc, .int .i64 me], .int .i64 (bits .or .i64 (IntKind.i64.wrap (y6 * 256)) y7), .slice (some ad) (n - (8 + d)) 0, .bool (checkB ((xs.drop 5).take d) me)])) ((w8.setCell ⟨w.heap.size, 0, none⟩ (.slice A d cc)).setCell ⟨w.heap.size, 1, none⟩ (.int .i64 me)) := by
          refine ⟨A, cc, ad, by rw [Hor.out, Hd.out, Hcs.out, Hms.out, Hrs.out, Hz0.out], ?_, by rw [Hd.out]; exact hend, HBw.trans (hon.below (Nat.le_refl _) HBw.size), HF.out⟩
          rw [Hd.out, Hcs.out]
          have ho := own_only (own_below (show wr.drew.ownsRow (S + 1) 3 1 (.slice A d cc) ((xs.drop 5).take d).length (ints ((xs.drop 5).take d)) from O1.out) hb8 (Nat.le_refl _)) hon (by omega)
          have hl := Hnc.out.len
          obtain ⟨A2, c2, e2, _, _, hn2⟩ := own_nums ho Hnc.out.ok
          rw [hl] at e2 hn2
          injection e2 with e2
          subst e2
          exact hn2
        have Res := Lib.hid hres
        have e0 := t9.cell0
        have e1 := t9.cell1
        have E0 := Lib.hid e0
        have E1 := Lib.hid e1
        have q1 := hon.cell hs1 hSR
        have q2 := hon.cell hs2 hSR
        have q3 := hon.cell hs3 (by rw [block_of_add]; omega)
        have q4 := hon.cell hs4 (by rw [block_of_add]; omega)
        clear hres e0 e1 t9 hon b8 HBw
        refine wpAnyH_ready (rs := [21]) (by kernel_rfl) (by simp) ?_
        refine AllReadyH.cons rfl (fun K hK => ?_) AllReadyH.nil
        go_simp
        refine hK.out _ _ ?_ (fun hHeld => ?_)
        · exact ⟨q1, q2, q3, q4⟩
        clear hK K
        try simp only [List.getElem_toArray, List.getElem_cons_succ, List.getElem_cons_zero, Act.put, List.setIfInBounds_toArray, List.set_cons_zero, List.set_cons_succ]
        refine wpAnyH_take (i := 22) (v := ?vp222) rfl (by kernel_rfl) (by kernel_rfl) (by kernel_rfl) (fun _ _ _ h => h) (Or.inl ⟨by rfl, ?yp222⟩) hHeld ?rp222
        case yp222 => (intro W hW; go_simp; first | done | with_reducible rfl)
        try simp only [List.getElem_toArray, List.getElem_cons_succ, List.getElem_cons_zero, Act.put, List.setIfInBounds_toArray, List.set_cons_zero, List.set_cons_succ]
        refine wpAnyH_take (i := 23) (v := ?vp223) rfl (by kernel_rfl) (by kernel_rfl) (by kernel_rfl) (fun _ _ _ h => h) (Or.inl ⟨by rfl, ?yp223⟩) hHeld ?rp223
        case yp223 => (intro W hW; go_simp; first | done | with_reducible rfl)
        try simp only [List.getElem_toArray, List.getElem_cons_succ, List.getElem_cons_zero, Act.put, List.setIfInBounds_toArray, List.set_cons_zero, List.set_cons_succ]
        refine wpAnyH_take (i := 24) (v := ?vp224) rfl (by kernel_rfl) (by kernel_rfl) (by kernel_rfl) (fun _ _ _ h => h) (Or.inl ⟨by rfl, ?yp224⟩) hHeld ?rp224
        case yp224 => (intro W hW; go_simp; first | done | with_reducible rfl)
        try simp only [List.getElem_toArray, List.getElem_cons_succ, List.getElem_cons_zero, Act.put, List.setIfInBounds_toArray, List.set_cons_zero, List.set_cons_succ]
        refine wpAnyH_done (by kernel_rfl) ?_ _
        have e0 := E0.out
        have e1 := E1.out
        clear hHeld q1 q2 q3 q4 r0 r1 g0 g1 hs1 hs2 hs3 hs4 hb8
        go_wp2
        exact bodyPost_ret (v := .tuple #[.agg #[.slice A d cc, .int .i64 me], .int .i64 (bits .or .i64 (IntKind.i64.wrap (y6 * 256)) y7), .slice (some ad) (n - (8 + d)) 0, .bool (checkB ((xs.drop 5).take d) me)]) (by simp [results, Try.results30, go_sem, e0, e1]) rfl Res.out
      · go_upto_region 11 with (fail)
        refine wp_region_held_drew (S := fun W => W.cell? ⟨S, 0, none⟩ = some (.slice A d cc) ∧ W.cell? ⟨S, 1, none⟩ = some (.int .i64 me) ∧ W.cell? (ad.add (6 + d)) = some (.int .u8 y6) ∧ W.cell? (ad.add (7 + d)) = some (.int .u8 y7)) (by kernel_rfl) ⟨c0, c1, c6, c7⟩ (fun hHeld => ?_)
        refine wpAnyH_take (i := 0) (v := ?vq0) rfl (by kernel_rfl) (by kernel_rfl) (by kernel_rfl) (fun _ _ _ h => h) (Or.inl ⟨by rfl, ?yq0⟩) hHeld ?rq0
        case yq0 => (intro W hW; obtain ⟨x1, x2, x3, x4⟩ := hW; go_simp; first | done | with_reducible rfl)
        try simp only [List.getElem_toArray, List.getElem_cons_zero, Act.put, List.setIfInBounds_toArray, List.set_cons_zero, List.set_cons_succ]
        refine wpAnyH_take (i := 1) (v := ?vq1) rfl (by kernel_rfl) (by kernel_rfl) (by kernel_rfl) (fun _ _ _ h => h) (Or.inl ⟨by rfl, ?yq1⟩) hHeld ?rq1
        case yq1 => (intro W hW; go_simp; first | done | with_reducible rfl)
        try simp only [List.getElem_toArray, List.getElem_cons_succ, List.getElem_cons_zero, Act.put, List.setIfInBounds_toArray, List.set_cons_zero, List.set_cons_succ]
        refine wpAnyH_take (i := 2) (v := ?vq2) rfl (by kernel_rfl) (by kernel_rfl) (by kernel_rfl) (fun _ _ _ h => h) (Or.inl ⟨by rfl, ?yq2⟩) hHeld ?rq2
        case yq2 => (intro W hW; go_simp; first | done | with_reducible rfl)
        try simp only [List.getElem_toArray, List.getElem_cons_succ, List.getElem_cons_zero, Act.put, List.setIfInBounds_toArray, List.set_cons_zero, List.set_cons_succ]
        refine wpAnyH_take (i := 3) (v := ?vq3) rfl (by kernel_rfl) (by kernel_rfl) (by kernel_rfl) (fun _ _ _ h => h) (Or.inl ⟨by rfl, ?yq3⟩) hHeld ?rq3
        case yq3 => (intro W hW; go_simp; first | done | with_reducible rfl)
        try simp only [List.getElem_toArray, List.getElem_cons_succ, List.getElem_cons_zero, Act.put, List.setIfInBounds_toArray, List.set_cons_zero, List.set_cons_succ]
        refine wpAnyH_take (i := 4) (v := ?vq4) rfl (by kernel_rfl) (by kernel_rfl) (by kernel_rfl) (fun _ _ _ h => h) (Or.inl ⟨by rfl, ?yq4⟩) hHeld ?rq4
        case yq4 => (intro W hW; go_simp; first | done | with_reducible rfl)
        try simp only [List.getElem_toArray, List.getElem_cons_succ, List.getElem_cons_zero, Act.put, List.setIfInBounds_toArray, List.set_cons_zero, List.set_cons_succ]
        refine wpAnyH_take (i := 5) (v := ?vq5) rfl (by kernel_rfl) (by kernel_rfl) (by kernel_rfl) (fun _ _ _ h => h) (Or.inl ⟨by rfl, ?yq5⟩) hHeld ?rq5
        case yq5 => (intro W hW; obtain ⟨x1, x2, x3, x4⟩ := hW; go_simp; first | done | with_reducible rfl)
        try simp only [List.getElem_toArray, List.getElem_cons_succ, List.getElem_cons_zero, Act.put, List.setIfInBounds_toArray, List.set_cons_zero, List.set_cons_succ]
        refine wpAnyH_take (i := 6) (v := ?vq6) rfl (by kernel_rfl) (by kernel_rfl) (by kernel_rfl) (fun _ _ _ h => h) (Or.inl ⟨by rfl, ?yq6⟩) hHeld ?rq6
        case yq6 => (intro W hW; go_simp; first | done | with_reducible rfl)
        try simp only [List.getElem_toArray, List.getElem_cons_succ, List.getElem_cons_zero, Act.put, List.setIfInBounds_toArray, List.set_cons_zero, List.set_cons_succ]
        refine wpAnyH_take (i := 7) (v := ?vq7) rfl (by kernel_rfl) (by kernel_rfl) (by kernel_rfl) (fun _ _ _ h => h) (Or.inl ⟨by rfl, ?yq7⟩) hHeld ?rq7
        case yq7 => (intro W hW; go_simp; first | done | with_reducible rfl)
        try simp only [List.getElem_toArray, List.getElem_cons_succ, List.getElem_cons_zero, Act.put, List.setIfInBounds_toArray, List.set_cons_zero, List.set_cons_succ]
        refine wpAnyH_take (i := 8) (v := ?vq8) rfl (by kernel_rfl) (by kernel_rfl) (by kernel_rfl) (fun _ _ _ h => h) (Or.inl ⟨by rfl, ?yq8⟩) hHeld ?rq8
        case yq8 => (intro W hW; go_simp; first | done | with_reducible rfl)
        try simp only [List.getElem_toArray, List.getElem_cons_succ, List.getElem_cons_zero, Act.put, List.setIfInBounds_toArray, List.set_cons_zero, List.set_cons_succ]
        refine wpAnyH_take (i := 9) (v := ?vq9) rfl (by kernel_rfl) (by kernel_rfl) (by kernel_rfl) (fun _ _ _ h => h) (Or.inl ⟨by rfl, ?yq9⟩) hHeld ?rq9
        case yq9 => (intro W hW; go_simp; first | done | with_reducible rfl)
        try simp only [List.getElem_toArray, List.getElem_cons_succ, List.getElem_cons_zero, Act.put, List.setIfInBounds_toArray, List.set_cons_zero, List.set_cons_succ]
        refine wpAnyH_take (i := 10) (v := ?vq10) rfl (by kernel_rfl) (by kernel_rfl) (by kernel_rfl) (fun _ _ _ h => h) (Or.inl ⟨by rfl, ?yq10⟩) hHeld ?rq10
        case yq10 => (intro W hW; go_simp; first | done | with_reducible rfl)
        try simp only [List.getElem_toArray, List.getElem_cons_succ, List.getElem_cons_zero, Act.put, List.setIfInBounds_toArray, List.set_cons_zero, List.set_cons_succ]
        refine wpAnyH_take (i := 11) (v := ?vq11) rfl (by kernel_rfl) (by kernel_rfl) (by kernel_rfl) (fun _ _ _ h => h) (Or.inl ⟨by rfl, ?yq11⟩) hHeld ?rq11
        case yq11 => (intro W hW; go_simp; first | done | with_reducible rfl)
        try simp only [List.getElem_toArray, List.getElem_cons_succ, List.getElem_cons_zero, Act.put, List.setIfInBounds_toArray, List.set_cons_zero, List.set_cons_succ]
        refine wpAnyH_take (i := 12) (v := ?vq12) rfl (by kernel_rfl) (by kernel_rfl) (by kernel_rfl) (fun _ _ _ h => h) (Or.inl ⟨by rfl, ?yq12⟩) hHeld ?rq12
        case yq12 => (intro W hW; obtain ⟨x1, x2, x3, x4⟩ := hW; go_simp; first | done | with_reducible rfl)
        try simp only [List.getElem_toArray, List.getElem_cons_succ, List.getElem_cons_zero, Act.put, List.setIfInBounds_toArray, List.set_cons_zero, List.set_cons_succ]
        refine wpAnyH_take (i := 13) (v := ?vq13) rfl (by kernel_rfl) (by kernel_rfl) (by kernel_rfl) (fun _ _ _ h => h) (Or.inl ⟨by rfl, ?yq13⟩) hHeld ?rq13
        case yq13 => (intro W hW; go_simp; first | done | with_reducible rfl)
        try simp only [List.getElem_toArray, List.getElem_cons_succ, List.getElem_cons_zero, Act.put, List.setIfInBounds_toArray, List.set_cons_zero, List.set_cons_succ]
        refine wpAnyH_take (i := 14) (v := ?vq14) rfl (by kernel_rfl) (by kernel_rfl) (by kernel_rfl) (fun _ _ _ h => h) (Or.inl ⟨by rfl, ?yq14⟩) hHeld ?rq14
        case yq14 => (intro W hW; go_simp; first | done | with_reducible rfl)
        try simp only [List.getElem_toArray, List.getElem_cons_succ, List.getElem_cons_zero, Act.put, List.setIfInBounds_toArray, List.set_cons_zero, List.set_cons_succ]
        refine wpAnyH_take (i := 15) (v := ?vq15) rfl (by kernel_rfl) (by kernel_rfl) (by kernel_rfl) (fun _ _ _ h => h) (Or.inl ⟨by rfl, ?yq15⟩) hHeld ?rq15
        case yq15 => (intro W hW; go_simp; first | done | with_reducible rfl)
        try simp only [List.getElem_toArray, List.getElem_cons_succ, List.getElem_cons_zero, Act.put, List.setIfInBounds_toArray, List.set_cons_zero, List.set_cons_succ]
        refine wpAnyH_take (i := 16) (v := ?vq16) rfl (by kernel_rfl) (by kernel_rfl) (by kernel_rfl) (fun _ _ _ h => h) (Or.inl ⟨by rfl, ?yq16⟩) hHeld ?rq16
        case yq16 => (intro W hW; go_simp; first | done | with_reducible rfl)
        try simp only [List.getElem_toArray, List.getElem_cons_succ, List.getElem_cons_zero, Act.put, List.setIfInBounds_toArray, List.set_cons_zero, List.set_cons_succ]
        refine wpAnyH_take (i := 17) (v := ?vq17) rfl (by kernel_rfl) (by kernel_rfl) (by kernel_rfl) (fun _ _ _ h => h) (Or.inl ⟨by rfl, ?yq17⟩) hHeld ?rq17
        case yq17 => (intro W hW; go_simp; first | done | with_reducible rfl)
        try simp only [List.getElem_toArray, List.getElem_cons_succ, List.getElem_cons_zero, Act.put, List.setIfInBounds_toArray, List.set_cons_zero, List.set_cons_succ]
        refine wpAnyH_take (i := 18) (v := ?vq18) rfl (by kernel_rfl) (by kernel_rfl) (by kernel_rfl) (fun _ _ _ h => h) (Or.inl ⟨by rfl, ?yq18⟩) hHeld ?rq18
        case yq18 => (intro W hW; go_simp; first | done | with_reducible rfl)
        try simp only [List.getElem_toArray, List.getElem_cons_succ, List.getElem_cons_zero, Act.put, List.setIfInBounds_toArray, List.set_cons_zero, List.set_cons_succ]
        refine wpAnyH_take (i := 19) (v := ?vq19) rfl (by kernel_rfl) (by kernel_rfl) (by kernel_rfl) (fun _ _ _ h => h) (Or.inl ⟨by rfl, ?yq19⟩) hHeld ?rq19
        case yq19 => (intro W hW; obtain ⟨x1, x2, x3, x4⟩ := hW; go_simp; first | done | with_reducible rfl)
        try simp only [List.getElem_toArray, List.getElem_cons_succ, List.getElem_cons_zero, Act.put, List.setIfInBounds_toArray, List.set_cons_zero, List.set_cons_succ]
        refine wpAnyH_ready (rs := [20]) (by kernel_rfl) (by simp) ?_
        refine AllReadyH.cons rfl (fun K hK => ?_) AllReadyH.nil
        go_simp
        refine HC.out.mono ?_
        rintro e w8 ⟨rfl, hb8⟩
        go_wp2_with fail
        refine hK.out _ _ ?_ (fun hHeld => ?_)
        · exact ⟨((B1.out.drewN 1).below hb8 B1.out.lt).cell0, ((B1.out.drewN 1).below hb8 B1.out.lt).cell1, (Keeps.of_below hb8) _ _ c6, (Keeps.of_below hb8) _ _ c7⟩
        clear hK K
        try simp only [List.getElem_toArray, List.getElem_cons_succ, List.getElem_cons_zero, Act.put, List.setIfInBounds_toArray, List.set_cons_zero, List.set_cons_succ]
        have b8 := (B0.out.drewN 1).below hb8 B0.out.lt
        have r0 := b8.cell0
        have r1 := b8.cell1
        have g0 := b8.frozen 0
        have g1 := b8.frozen 1
        have hon : Only w.heap.size w8 ((w8.setCell ⟨w.heap.size, 0, none⟩ (.slice A d cc)).setCell ⟨w.heap.size, 1, none⟩ (.int .i64 me)) := ((Only.refl _ _).setCell 0 _).setCell 1 _
        obtain ⟨hs1, hs2, hs3, hs4⟩ := hHeld
        have HBw : Below w.heap.size w w8 := (show Below w.heap.size w wr.drew from below_drewN Hb.out 1).trans (hb8.mono (by exact Hb.out.size))
        have t9 := (b8.set0 (.slice A d cc)).set1 (.int .i64 me)
        have hres : RHeadPost xs ad n c w (.returned (.tuple #[.agg #[.slice A d cc, .int .i64 me], .int .i64 (bits .or .i64 (IntKind.i64.wrap (y6 * 256)) y7), .slice (some (ad.add (8 + d))) (n - (8 + d)) (c - (8 + d)), .bool (checkB ((xs.drop 5).take d) me)])) ((w8.setCell ⟨w.heap.size, 0, none⟩ (.slice A d cc)).setCell ⟨w.heap.size, 1, none⟩ (.int .i64 me)) := by
          refine ⟨A, cc, (ad.add (8 + d)), by rw [Hor.out, Hd.out, Hcs.out, Hms.out, Hrs.out], ?_, by rw [Hd.out]; exact Tail.add_ ad xs jd2, HBw.trans (hon.below (Nat.le_refl _) HBw.size), HF.out⟩
          rw [Hd.out, Hcs.out]
          have ho := own_only (own_below (show wr.drew.ownsRow (S + 1) 3 1 (.slice A d cc) ((xs.drop 5).take d).length (ints ((xs.drop 5).take d)) from O1.out) hb8 (Nat.le_refl _)) hon (by omega)
          have hl := Hnc.out.len
          obtain ⟨A2, c2, e2, _, _, hn2⟩ := own_nums ho Hnc.out.ok
          rw [hl] at e2 hn2
          injection e2 with e2
          subst e2
          exact hn2
        have Res := Lib.hid hres
        have e0 := t9.cell0
        have e1 := t9.cell1
        have E0 := Lib.hid e0
        have E1 := Lib.hid e1
        have q1 := hon.cell hs1 hSR
        have q2 := hon.cell hs2 hSR
        have q3 := hon.cell hs3 (by rw [block_of_add]; omega)
        have q4 := hon.cell hs4 (by rw [block_of_add]; omega)
        clear hres e0 e1 t9 hon b8 HBw
        refine wpAnyH_ready (rs := [21]) (by kernel_rfl) (by simp) ?_
        refine AllReadyH.cons rfl (fun K hK => ?_) AllReadyH.nil
        go_simp
        refine hK.out _ _ ?_ (fun hHeld => ?_)
        · exact ⟨q1, q2, q3, q4⟩
        clear hK K
        try simp only [List.getElem_toArray, List.getElem_cons_succ, List.getElem_cons_zero, Act.put, List.setIfInBounds_toArray, List.set_cons_zero, List.set_cons_succ]
        refine wpAnyH_take (i := 22) (v := ?vq222) rfl (by kernel_rfl) (by kernel_rfl) (by kernel_rfl) (fun _ _ _ h => h) (Or.inl ⟨by rfl, ?yq222⟩) hHeld ?rq222
        case yq222 => (intro W hW; go_simp; first | done | with_reducible rfl)
        try simp only [List.getElem_toArray, List.getElem_cons_succ, List.getElem_cons_zero, Act.put, List.setIfInBounds_toArray, List.set_cons_zero, List.set_cons_succ]
        refine wpAnyH_take (i := 23) (v := ?vq223) rfl (by kernel_rfl) (by kernel_rfl) (by kernel_rfl) (fun _ _ _ h => h) (Or.inl ⟨by rfl, ?yq223⟩) hHeld ?rq223
        case yq223 => (intro W hW; go_simp; first | done | with_reducible rfl)
        try simp only [List.getElem_toArray, List.getElem_cons_succ, List.getElem_cons_zero, Act.put, List.setIfInBounds_toArray, List.set_cons_zero, List.set_cons_succ]
        refine wpAnyH_take (i := 24) (v := ?vq224) rfl (by kernel_rfl) (by kernel_rfl) (by kernel_rfl) (fun _ _ _ h => h) (Or.inl ⟨by rfl, ?yq224⟩) hHeld ?rq224
        case yq224 => (intro W hW; go_simp; first | done | with_reducible rfl)
        try simp only [List.getElem_toArray, List.getElem_cons_succ, List.getElem_cons_zero, Act.put, List.setIfInBounds_toArray, List.set_cons_zero, List.set_cons_succ]
        refine wpAnyH_done (by kernel_rfl) ?_ _
        have e0 := E0.out
        have e1 := E1.out
        clear hHeld q1 q2 q3 q4 r0 r1 g0 g1 hs1 hs2 hs3 hs4 hb8
        go_wp2
        exact bodyPost_ret (v := .tuple #[.agg #[.slice A d cc, .int .i64 me], .int .i64 (bits .or .i64 (IntKind.i64.wrap (y6 * 256)) y7), .slice (some (ad.add (8 + d))) (n - (8 + d)) (c - (8 + d)), .bool (checkB ((xs.drop 5).take d) me)]) (by simp [results, Try.results30, go_sem, e0, e1]) rfl Res.out
end Go.Proofs.Ytnabmbnfmnpcoaa
