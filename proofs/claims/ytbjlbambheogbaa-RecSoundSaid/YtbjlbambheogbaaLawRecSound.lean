/- The walk of the law RecSound: the Go text returns true, and writes nothing that was there. -/
import Derived.Test.YtbjlbambheogbaaLaw
import Derived.Test.YtbjlbambheogbaaRefSound
namespace Go.Proofs.Ytbjlbambheogbaa
open Go.RowKit
def sRow1 (i : Nat) (x : Int) : Fact := ⟨[(i : Int) % 2], [x]⟩
set_option maxHeartbeats 4000000 in
theorem sound_walk1 (a0 : Option Addr) (len0 cap0 : Nat) (z0 : List Int) (a1 : Option Addr) (len1 cap1 : Nat) (w : World) (w0 : IsRow .i64 w a0 len0 cap0 z0) :
    Calls Try.prog 6 #[.slice a0 len0 cap0, .slice a1 len1 cap1, .bool false] w fun e w' => e = .returned (.bool true) ∧ Below w.heap.size w w' := by
  obtain ⟨hx, hlc, hcap⟩ := w0.nums
  obtain ⟨xs, hxs⟩ : ∃ xs, xs = z0.take len0 := ⟨_, rfl⟩
  rw [← hxs] at hx
  clear hxs w0
  go_enter Try.func6, Try.ntmps6
  by_cases h100 : 100 < len0
  · go_wp2_with fail
    refine (known_any w).mono ?_
    rintro e w1 ⟨rfl, hb1⟩
    go_wp2
    go_ret
    exact ⟨rfl, hb1⟩
  · go_wp2_with fail
    refine (known_any w).mono ?_
    rintro e w1 ⟨rfl, hb1⟩
    have Hb1 := Lib.hid hb1
    clear hb1
    go_wp2_with fail
    obtain ⟨B, hB⟩ : ∃ B, B = w1.heap.size := ⟨_, rfl⟩
    rw [← hB]
    have a1 : Arr .i64 3 ((w1.alloc (.cells #[.int .i64 2] 3)).alloc (.cells #[.slice (some ⟨B, 0, none⟩) 1 1, .int .i64 1] 24)) B [2] := (Arr.new _ .i64 3 [2] B (by simp [hB])).alloc _
    have a2 : Box2 24 ((w1.alloc (.cells #[.int .i64 2] 3)).alloc (.cells #[.slice (some ⟨B, 0, none⟩) 1 1, .int .i64 1] 24)) (B + 1) (.slice (some ⟨B, 0, none⟩) 1 1) (.int .i64 1) := heap_new _ _ (B + 1) (by simp [hB])
    have a3 : Below w.heap.size w ((w1.alloc (.cells #[.int .i64 2] 3)).alloc (.cells #[.slice (some ⟨B, 0, none⟩) 1 1, .int .i64 1] 24)) := by
      have := Hb1.out.size
      exact (Hb1.out.alloc (by omega) _).alloc (by simp; omega) _
    have a4 : ((w1.alloc (.cells #[.int .i64 2] 3)).alloc (.cells #[.slice (some ⟨B, 0, none⟩) 1 1, .int .i64 1] 24)).heap.size = B + 2 := by simp [hB]
    have hwB : w.heap.size ≤ B := by rw [hB]; exact Hb1.out.size
    generalize (w1.alloc _).alloc _ = w2 at a1 a2 a3 a4 ⊢
    have A1 := Lib.hid a1
    have A2 := Lib.hid a2
    have A3 := Lib.hid a3
    have A4 := Lib.hid a4
    have Hx := Lib.hid hx
    clear a1 a2 a3 a4 hB Hb1 hx
    go_loopw [8, 9] (fun v i wr => ∃ k : Nat, k ≤ len0 ∧ i = .int .i64 k ∧ RowsV wr (B + 2) v ((xs.take k).mapIdx sRow1) ∧ Below (B + 2) w2 wr) (fun _ i _ => len0 - (intOf i).toNat)
    case atStart => exact ⟨0, by omega, rfl, by simpa using RowsV.nil _ _, Below.refl _ _⟩
    case round =>
      obtain ⟨k, hk, rfl, hR, hb⟩ := hrel
      have Hb := Lib.hid hb
      have hBw : Below w.heap.size w wr := A3.out.trans (hb.mono (by omega))
      have HBw := Lib.hid hBw
      have hlk : ((xs.take k).mapIdx sRow1).length = k := by rw [List.length_mapIdx, List.length_take, Hx.out.len]; exact Nat.min_eq_left hk
      have Hlk := Lib.hid hlk
      clear hb hBw hlk
      by_cases hlt : k < len0
      · obtain ⟨ad, x, rfl, hxk, ⟨hx1, hx2⟩, hxc⟩ := (Hx.out.keep (Keeps.of_below HBw.out)).at_ hlt
        have hxc2 : ∀ o, (wr.alloc o).cell? (ad.add k) = some (.int .i64 x) := fun o => ((Keeps.refl _).alloc o) _ _ hxc
        have Hxk := Lib.hid hxk
        have hz : B + 2 ≤ wr.heap.size := by have := Hb.out.size; rw [A4.out] at this; exact this
        have HR := Lib.hid hR
        clear hxk hxc hR
        have b1 : Below wr.heap.size wr (((wr.alloc (.cells #[.int .i64 ((k : Int) % 2)] 3)).alloc (.cells #[.int .i64 x] 3)).alloc (.cells #[.slice (some ⟨wr.heap.size, 0, none⟩) 1 1, .slice (some ⟨wr.heap.size + 1, 0, none⟩) 1 1] 33)) := (((Below.refl _ _).alloc (Nat.le_refl _) _).alloc (by simp) _).alloc (by simp; omega) _
        have o1 := ((own_lit wr (B + 2) 3 [.int .i64 ((k : Int) % 2)] wr.heap.size 1 1 rfl hz (by simp [maxLen]) rfl).alloc (.cells #[.int .i64 x] 3)).alloc (.cells #[.slice (some ⟨wr.heap.size, 0, none⟩) 1 1, .slice (some ⟨wr.heap.size + 1, 0, none⟩) 1 1] 33)
        have o2 := (own_lit (wr.alloc (.cells #[.int .i64 ((k : Int) % 2)] 3)) (B + 2) 3 [.int .i64 x] (wr.heap.size + 1) 1 1 (by simp) (by omega) (by simp [maxLen]) rfl).alloc (.cells #[.slice (some ⟨wr.heap.size, 0, none⟩) 1 1, .slice (some ⟨wr.heap.size + 1, 0, none⟩) 1 1] 33)
        obtain ⟨v', w', hrun, hR', hb'⟩ := append_row _ (B + 2) _ _ (sRow1 k x) (.slice (some ⟨wr.heap.size, 0, none⟩) 1 1) (.slice (some ⟨wr.heap.size + 1, 0, none⟩) 1 1) (wr.heap.size + 1 + 1 + 1) (by simp) (HR.out.below b1 (Nat.le_refl _)) ⟨o1, o2⟩ rfl rfl (by rw [Hlk.out]; omega) (by simp; omega)
        have HR' := Lib.hid hR'
        have Hb' := Lib.hid (Hb.out.trans ((b1.mono hz).trans hb'))
        have Hrun := Lib.hid hrun
        clear b1 o1 o2 hR' hb' hrun
        go_wp2_with (at_builtin; refine wpList_append_eq rfl (.tmp 52) (.tmp 54) 25 rfl _ _ _ _ rfl rfl Hrun.out ?_; clear Hrun)
        exact ⟨⟨k + 1, by omega, by go_num, by rw [take_snoc Hxk.out, List.mapIdx_append, List.length_take, Hx.out.len, Nat.min_eq_left hk]; simpa using HR'.out, Hb'.out⟩, by simp [intOf]; omega⟩
      · obtain rfl : k = len0 := by omega
        have hall : (xs.take k).mapIdx sRow1 = xs.mapIdx sRow1 := by rw [List.take_of_length_le (Nat.le_of_eq Hx.out.len)]
        rw [hall] at hR Hlk
        obtain ⟨l, hl⟩ : ∃ l, l = xs.mapIdx sRow1 := ⟨_, rfl⟩
        rw [← hl] at hR Hlk
        have hmem : ∀ r ∈ l, ∃ i x, r = sRow1 i x ∧ inK .i64 x := by
          intro r hr
          rw [hl] at hr
          obtain ⟨i, hi, rfl⟩ := List.mem_mapIdx.1 hr
          exact ⟨i, _, rfl, Hx.out.ok _ (List.getElem_mem _)⟩
        have hsm : ∀ r ∈ l, (∀ x ∈ r.key, inK .i64 x) ∧ ∀ x ∈ r.m, inK .i64 x := by
          intro r hr
          obtain ⟨i, x, rfl, hx⟩ := hmem r hr
          refine ⟨?_, ?_⟩
          · intro y hy; simp [sRow1] at hy; subst hy; simp only [inK]; omega
          · intro y hy; simp [sRow1] at hy; subst hy; exact hx
        obtain ⟨A, c, rfl, hc1, hc2, hF⟩ := hR.facts hsm
        have ha : allRightB [2] 1 l = true := allRightB_yes (by decide) (by
          intro r hr
          obtain ⟨i, x, rfl, _⟩ := hmem r hr
          simp [rightB, keysB, sRow1]
          omega)
        have hlen : ∀ r ∈ l, r.key.length = 1 ∧ r.m.length = 1 := by
          intro r hr
          obtain ⟨i, x, rfl, _⟩ := hmem r hr
          exact ⟨rfl, rfl⟩
        have c0 := (A2.out.below Hb.out (by omega)).cell0
        have c1 := (A2.out.below Hb.out (by omega)).cell1
        have hnc : Nums .i64 wr (some ⟨B, 0, none⟩) 1 [2] := (A1.out.below Hb.out (by omega)).nums (by simp [inK])
        have k0 := cell_regrown c0
        have k1 := cell_regrown c1
        have hK : ∀ p : Regrown, Keeps wr (Go.Sort.grow (redrawn wr p.d) p.os) := fun p => Keeps.of_below (below_regrown _ _ _)
        rw [Hlk.out] at hF
        have q1 := fun p : Regrown => Calls.regrown_of (Sound_any _ _ 1 1 k c [2] 1 l _ (hnc.keep (hK p)) (hF.keep (hK p)) (by omega) (by omega) (fun r hr => by have := hlen r hr; omega) (by simp [inK]))
        have q2 := fun p : Regrown => Calls.regrown_of (rSound_any (some ⟨B, 0, none⟩) _ 1 1 k c 1 l _ (hF.keep (hK p)) (by omega) (by omega) (fun r hr => by have := hlen r hr; omega))
        have e1 : soundB [2] 1 l = soundsB 1 l := by rw [soundB, ha]; rfl
        rw [e1] at q1
        simp only [show ((1 : Nat) : Int) = 1 from rfl] at q2
        have Q1 := Lib.hid q1
        have Q2 := Lib.hid q2
        rw [Hlk.out]
        clear q1 q2 hK hnc hF ha hlen hsm hmem hall hl e1 hR
        go_wp2_with fail
        refine wp_region_quiet_below (by kernel_rfl) (by kernel_rfl) ?_
        repeat (go_big_quiet_step (first | with_reducible exact Q1.out _ | with_reducible exact Q2.out _))
        refine wpQuiet_nil ?_
        intro _ hw'
        obtain ⟨p, rfl⟩ := hw'
        go_wp2
        go_ret
        exact ⟨rfl, HBw.out.trans ((below_regrown _ _ _).mono HBw.out.size)⟩
def sRow2 (ys : List Int) (i : Nat) (x : Int) : Fact := ⟨[(i : Int) % 2], [x, ys.getD i i]⟩
set_option maxHeartbeats 4000000 in
theorem sound_walk2 (a0 : Option Addr) (len0 cap0 : Nat) (z0 : List Int) (a1 : Option Addr) (len1 cap1 : Nat) (z1 : List Int) (w : World) (w0 : IsRow .i64 w a0 len0 cap0 z0) (u1 : IsRow .i64 w a1 len1 cap1 z1) :
    Calls Try.prog 6 #[.slice a0 len0 cap0, .slice a1 len1 cap1, .bool true] w fun e w' => e = .returned (.bool true) ∧ Below w.heap.size w w' := by
  obtain ⟨hx, hlc, hcap⟩ := w0.nums
  obtain ⟨hy, hlc1, hcap1⟩ := u1.nums
  obtain ⟨ys, hys⟩ : ∃ ys, ys = z1.take len1 := ⟨_, rfl⟩
  rw [← hys] at hy
  clear hys u1
  have Hy := Lib.hid hy
  clear hy
  obtain ⟨xs, hxs⟩ : ∃ xs, xs = z0.take len0 := ⟨_, rfl⟩
  rw [← hxs] at hx
  clear hxs w0
  go_enter Try.func6, Try.ntmps6
  by_cases h100 : 100 < len0
  · go_wp2_with fail
    refine (known_any w).mono ?_
    rintro e w1 ⟨rfl, hb1⟩
    go_wp2
    go_ret
    exact ⟨rfl, hb1⟩
  · go_wp2_with fail
    refine (known_any w).mono ?_
    rintro e w1 ⟨rfl, hb1⟩
    have Hb1 := Lib.hid hb1
    clear hb1
    go_wp2_with fail
    obtain ⟨B, hB⟩ : ∃ B, B = w1.heap.size := ⟨_, rfl⟩
    rw [← hB]
    have a1 : Arr .i64 3 ((w1.alloc (.cells #[.int .i64 2] 3)).alloc (.cells #[.slice (some ⟨B, 0, none⟩) 1 1, .int .i64 2] 24)) B [2] := (Arr.new _ .i64 3 [2] B (by simp [hB])).alloc _
    have a2 : Box2 24 ((w1.alloc (.cells #[.int .i64 2] 3)).alloc (.cells #[.slice (some ⟨B, 0, none⟩) 1 1, .int .i64 2] 24)) (B + 1) (.slice (some ⟨B, 0, none⟩) 1 1) (.int .i64 2) := heap_new _ _ (B + 1) (by simp [hB])
    have a3 : Below w.heap.size w ((w1.alloc (.cells #[.int .i64 2] 3)).alloc (.cells #[.slice (some ⟨B, 0, none⟩) 1 1, .int .i64 2] 24)) := by
      have := Hb1.out.size
      exact (Hb1.out.alloc (by omega) _).alloc (by simp; omega) _
    have a4 : ((w1.alloc (.cells #[.int .i64 2] 3)).alloc (.cells #[.slice (some ⟨B, 0, none⟩) 1 1, .int .i64 2] 24)).heap.size = B + 2 := by simp [hB]
    have hwB : w.heap.size ≤ B := by rw [hB]; exact Hb1.out.size
    generalize (w1.alloc _).alloc _ = w2 at a1 a2 a3 a4 ⊢
    have A1 := Lib.hid a1
    have A2 := Lib.hid a2
    have A3 := Lib.hid a3
    have A4 := Lib.hid a4
    have Hx := Lib.hid hx
    clear a1 a2 a3 a4 hB Hb1 hx
    go_loopw [8, 9] (fun v i wr => ∃ k : Nat, k ≤ len0 ∧ i = .int .i64 k ∧ RowsV wr (B + 2) v ((xs.take k).mapIdx (sRow2 ys)) ∧ Below (B + 2) w2 wr) (fun _ i _ => len0 - (intOf i).toNat)
    case atStart => exact ⟨0, by omega, rfl, by simpa using RowsV.nil _ _, Below.refl _ _⟩
    case round =>
      obtain ⟨k, hk, rfl, hR, hb⟩ := hrel
      have Hb := Lib.hid hb
      have hBw : Below w.heap.size w wr := A3.out.trans (hb.mono (by omega))
      have HBw := Lib.hid hBw
      have hlk : ((xs.take k).mapIdx (sRow2 ys)).length = k := by rw [List.length_mapIdx, List.length_take, Hx.out.len]; exact Nat.min_eq_left hk
      have Hlk := Lib.hid hlk
      clear hb hBw hlk
      by_cases hlt : k < len0
      · obtain ⟨ad, x, rfl, hxk, ⟨hx1, hx2⟩, hxc⟩ := (Hx.out.keep (Keeps.of_below HBw.out)).at_ hlt
        have hxc2 : ∀ o, (wr.alloc o).cell? (ad.add k) = some (.int .i64 x) := fun o => ((Keeps.refl _).alloc o) _ _ hxc
        have Hxk := Lib.hid hxk
        have hz : B + 2 ≤ wr.heap.size := by have := Hb.out.size; rw [A4.out] at this; exact this
        have HR := Lib.hid hR
        clear hxk hxc hR
        have hcase : (∃ bd y, k < len1 ∧ a1 = some bd ∧ ys[k]? = some y ∧ wr.cell? (bd.add k) = some (.int .i64 y)) ∨ (¬ k < len1 ∧ ys[k]? = none) := by
          by_cases hk1 : k < len1
          · obtain ⟨bd, y, e, hyk, _, hyc⟩ := (Hy.out.keep (Keeps.of_below HBw.out)).at_ hk1
            exact .inl ⟨bd, y, hk1, e, hyk, hyc⟩
          · exact .inr ⟨hk1, List.getElem?_eq_none (by rw [Hy.out.len]; omega)⟩
        obtain ⟨y, hyv⟩ : ∃ y, y = ys.getD k k := ⟨_, rfl⟩
        have Hyv := Lib.hid hyv
        have b1 : Below wr.heap.size wr (((wr.alloc (.cells #[.int .i64 ((k : Int) % 2)] 3)).alloc (.cells #[.int .i64 x] 3)).alloc (.cells #[.slice (some ⟨wr.heap.size, 0, none⟩) 1 1, .slice (some ⟨wr.heap.size + 1, 0, none⟩) 1 1] 33)) := (((Below.refl _ _).alloc (Nat.le_refl _) _).alloc (by simp) _).alloc (by simp; omega) _
        have o1 := ((own_lit wr (B + 2) 3 [.int .i64 ((k : Int) % 2)] wr.heap.size 1 1 rfl hz (by simp [maxLen]) rfl).alloc (.cells #[.int .i64 x] 3)).alloc (.cells #[.slice (some ⟨wr.heap.size, 0, none⟩) 1 1, .slice (some ⟨wr.heap.size + 1, 0, none⟩) 1 1] 33)
        have o2 := (own_lit (wr.alloc (.cells #[.int .i64 ((k : Int) % 2)] 3)) wr.heap.size 3 [.int .i64 x] (wr.heap.size + 1) 1 1 (by simp) (by omega) (by simp [maxLen]) rfl).alloc (.cells #[.slice (some ⟨wr.heap.size, 0, none⟩) 1 1, .slice (some ⟨wr.heap.size + 1, 0, none⟩) 1 1] 33)
        have o3 : Box2 33 (((wr.alloc (.cells #[.int .i64 ((k : Int) % 2)] 3)).alloc (.cells #[.int .i64 x] 3)).alloc (.cells #[.slice (some ⟨wr.heap.size, 0, none⟩) 1 1, .slice (some ⟨wr.heap.size + 1, 0, none⟩) 1 1] 33)) (wr.heap.size + 1 + 1) (.slice (some ⟨wr.heap.size, 0, none⟩) 1 1) (.slice (some ⟨wr.heap.size + 1, 0, none⟩) 1 1) := heap_new _ _ _ (by simp)
        have hsz : (((wr.alloc (.cells #[.int .i64 ((k : Int) % 2)] 3)).alloc (.cells #[.int .i64 x] 3)).alloc (.cells #[.slice (some ⟨wr.heap.size, 0, none⟩) 1 1, .slice (some ⟨wr.heap.size + 1, 0, none⟩) 1 1] 33)).heap.size = wr.heap.size + 3 := by simp
        obtain ⟨v1, w3, hrun1, ho4, hg4⟩ := append_int _ wr.heap.size _ [x] y (wr.heap.size + 1 + 1 + 1) (by simp) o2 (by simp) (by rw [hsz]; omega)
        have hown2 := (o2.alloc (.cells #[.int .i64 y] 3))
        have c1' := (o1.alloc (.cells #[.int .i64 y] 3))
        have hb3 : Below wr.heap.size wr w3 := (b1.alloc (by rw [hsz]; omega) _).trans (below_grown hg4 hown2 (by simp [hsz]; omega))
        have hbx3 : Box2 33 w3 (wr.heap.size + 1 + 1) (.slice (some ⟨wr.heap.size, 0, none⟩) 1 1) (.slice (some ⟨wr.heap.size + 1, 0, none⟩) 1 1) :=
          (hg4.block _ (by simp) (by simp [Value.ownBlock])).trans (o3.alloc (.cells #[.int .i64 y] 3))
        have ho1 : w3.ownsRow (B + 2) 3 1 (.slice (some ⟨wr.heap.size, 0, none⟩) 1 1) 1 [.int .i64 ((k : Int) % 2)] := c1'.kept hg4 (.inr (by simp [Value.ownBlock]))
        obtain ⟨C, cc, hv1, -, -, -⟩ := own_form ho4
        have hv1 : v1 = .slice C 2 cc := hv1
        subst hv1
        have e0 := hbx3.cell0
        have e1 := hbx3.cell1
        have ef := hbx3.frozen
        have hon := only_setCell (wr.heap.size + 1 + 1) w3 1 (.slice C 2 cc)
        have hbx5 := hbx3.set1 (.slice C 2 cc)
        have hb5 : Below wr.heap.size wr (w3.setCell ⟨wr.heap.size + 1 + 1, 1, none⟩ (.slice C 2 cc)) := below_setCell hb3 (by omega) 1 _
        have hr1 := own_box ho1 hbx3 (by decide) 1 (.slice C 2 cc)
        have hr2 := (own_box ho4 hbx3 (by decide) 1 (.slice C 2 cc)).mono hz
        obtain ⟨w5, hw5⟩ : ∃ w5, w5 = w3.setCell ⟨wr.heap.size + 1 + 1, 1, none⟩ (.slice C 2 cc) := ⟨_, rfl⟩
        rw [← hw5] at hbx5 hb5 hr1 hr2
        have f0 := hbx5.cell0
        have f1 := hbx5.cell1
        obtain ⟨v', w', hrun, hR', hb'⟩ := append_row w5 (B + 2) _ _ (sRow2 ys k x) (.slice (some ⟨wr.heap.size, 0, none⟩) 1 1) (.slice C 2 cc) w3.heap.size (by rw [hw5]; simp [World.setCell]) (HR.out.below hb5 (Nat.le_refl _)) ⟨hr1, by rw [sRow2, ← Hyv.out]; exact hr2⟩ rfl rfl (by rw [Hlk.out]; omega) (by have := hb5.size; omega)
        have HR' := Lib.hid hR'
        have Hb' := Lib.hid (Hb.out.trans ((hb5.mono hz).trans hb'))
        have Hrun := Lib.hid hrun
        have Hrun1 := Lib.hid hrun1
        have Hw5 := Lib.hid hw5
        clear b1 o1 o2 o3 hR' hb' hrun hrun1 hw5 ho4 hg4 hown2 c1' hb3 hbx3 ho1 hon hbx5 hb5 hr1 hr2 hsz hyv
        rcases hcase with ⟨bd, y', hk1, rfl, hyk, hyc⟩ | ⟨hk1, hyk⟩
        · have hyy : y = y' := by rw [Hyv.out, List.getD_eq_getElem?_getD, hyk]; rfl
          subst hyy
          have hyc2 : ∀ o p q, (((wr.alloc o).alloc p).alloc q).cell? (bd.add k) = some (.int .i64 y) := fun o p q => ((((Keeps.refl _).alloc o).alloc p).alloc q) _ _ hyc
          clear hyk hyc
          go_wp2_with (first | (at_builtin; have _t := Hrun1; refine wpList_append_eq rfl (.tmp 47) (.tmp 49) 22 rfl _ _ _ _ rfl rfl Hrun1.out ?_; clear _t Hrun1) | (at_builtin; rw [← Hw5.out]; refine wpList_append_eq rfl (.tmp 52) (.tmp 54) 25 rfl _ _ _ _ rfl rfl Hrun.out ?_; clear Hrun))
          exact ⟨⟨k + 1, by omega, by go_num, by rw [take_snoc Hxk.out, List.mapIdx_append, List.length_take, Hx.out.len, Nat.min_eq_left hk]; simpa using HR'.out, Hb'.out⟩, by simp [intOf]; omega⟩
        · have hyy : y = (k : Int) := by rw [Hyv.out, List.getD_eq_getElem?_getD, hyk]; rfl
          subst hyy
          clear hyk
          go_wp2_with (first | (at_builtin; have _t := Hrun1; refine wpList_append_eq rfl (.tmp 47) (.tmp 49) 22 rfl _ _ _ _ rfl rfl Hrun1.out ?_; clear _t Hrun1) | (at_builtin; rw [← Hw5.out]; refine wpList_append_eq rfl (.tmp 52) (.tmp 54) 25 rfl _ _ _ _ rfl rfl Hrun.out ?_; clear Hrun))
          exact ⟨⟨k + 1, by omega, by go_num, by rw [take_snoc Hxk.out, List.mapIdx_append, List.length_take, Hx.out.len, Nat.min_eq_left hk]; simpa using HR'.out, Hb'.out⟩, by simp [intOf]; omega⟩
      · obtain rfl : k = len0 := by omega
        have hall : (xs.take k).mapIdx (sRow2 ys) = xs.mapIdx (sRow2 ys) := by rw [List.take_of_length_le (Nat.le_of_eq Hx.out.len)]
        rw [hall] at hR Hlk
        obtain ⟨l, hl⟩ : ∃ l, l = xs.mapIdx (sRow2 ys) := ⟨_, rfl⟩
        rw [← hl] at hR Hlk
        have hmem : ∀ r ∈ l, ∃ i x, r = sRow2 ys i x ∧ inK .i64 x ∧ inK .i64 (ys.getD i i) := by
          intro r hr
          rw [hl] at hr
          obtain ⟨i, hi, rfl⟩ := List.mem_mapIdx.1 hr
          refine ⟨i, _, rfl, Hx.out.ok _ (List.getElem_mem _), ?_⟩
          rw [List.getD_eq_getElem?_getD]
          cases hyi : ys[i]? with
          | none => have := Hx.out.len; simp only [Option.getD_none, inK]; omega
          | some y => exact Hy.out.ok y (List.mem_of_getElem? hyi)
        have hsm : ∀ r ∈ l, (∀ x ∈ r.key, inK .i64 x) ∧ ∀ x ∈ r.m, inK .i64 x := by
          intro r hr
          obtain ⟨i, x, rfl, hx, hx2⟩ := hmem r hr
          refine ⟨?_, ?_⟩
          · intro y hy; simp only [sRow2, List.mem_singleton] at hy; subst hy; simp only [inK]; omega
          · intro y hy; simp only [sRow2, List.mem_cons, List.not_mem_nil, or_false] at hy; rcases hy with rfl | rfl; exact hx; exact hx2
        obtain ⟨A, c, rfl, hc1, hc2, hF⟩ := hR.facts hsm
        have ha : allRightB [2] 2 l = true := allRightB_yes (by decide) (by
          intro r hr
          obtain ⟨i, x, rfl, _⟩ := hmem r hr
          simp [rightB, keysB, sRow2]
          omega)
        have hlen : ∀ r ∈ l, r.key.length = 1 ∧ r.m.length = 2 := by
          intro r hr
          obtain ⟨i, x, rfl, _⟩ := hmem r hr
          exact ⟨rfl, rfl⟩
        have c0 := (A2.out.below Hb.out (by omega)).cell0
        have c1 := (A2.out.below Hb.out (by omega)).cell1
        have hnc : Nums .i64 wr (some ⟨B, 0, none⟩) 1 [2] := (A1.out.below Hb.out (by omega)).nums (by simp [inK])
        have k0 := cell_regrown c0
        have k1 := cell_regrown c1
        have hK : ∀ p : Regrown, Keeps wr (Go.Sort.grow (redrawn wr p.d) p.os) := fun p => Keeps.of_below (below_regrown _ _ _)
        rw [Hlk.out] at hF
        have q1 := fun p : Regrown => Calls.regrown_of (Sound_any _ _ 1 1 k c [2] 2 l _ (hnc.keep (hK p)) (hF.keep (hK p)) (by omega) (by omega) (fun r hr => by have := hlen r hr; omega) (by simp [inK]))
        have q2 := fun p : Regrown => Calls.regrown_of (rSound_any (some ⟨B, 0, none⟩) _ 1 1 k c 2 l _ (hF.keep (hK p)) (by omega) (by omega) (fun r hr => by have := hlen r hr; omega))
        have e1 : soundB [2] 2 l = soundsB 2 l := by rw [soundB, ha]; rfl
        rw [e1] at q1
        simp only [show ((2 : Nat) : Int) = 2 from rfl] at q2
        have Q1 := Lib.hid q1
        have Q2 := Lib.hid q2
        rw [Hlk.out]
        clear q1 q2 hK hnc hF ha hlen hsm hmem hall hl e1 hR
        go_wp2_with fail
        refine wp_region_quiet_below (by kernel_rfl) (by kernel_rfl) ?_
        repeat (go_big_quiet_step (first | with_reducible exact Q1.out _ | with_reducible exact Q2.out _))
        refine wpQuiet_nil ?_
        intro _ hw'
        obtain ⟨p, rfl⟩ := hw'
        go_wp2
        go_ret
        exact ⟨rfl, HBw.out.trans ((below_regrown _ _ _).mono HBw.out.size)⟩
theorem sound_walk (a0 : Option Addr) (len0 cap0 : Nat) (z0 : List Int) (a1 : Option Addr) (len1 cap1 : Nat) (z1 : List Int) (b : Bool) (w : World) (w0 : IsRow .i64 w a0 len0 cap0 z0) (w1 : IsRow .i64 w a1 len1 cap1 z1) :
    Calls Try.prog 6 #[.slice a0 len0 cap0, .slice a1 len1 cap1, .bool b] w fun e w' => e = .returned (.bool true) ∧ Below w.heap.size w w' := by
  cases b
  · exact sound_walk1 a0 len0 cap0 z0 a1 len1 cap1 w w0
  · exact sound_walk2 a0 len0 cap0 z0 a1 len1 cap1 z1 w w0 w1
end Go.Proofs.Ytbjlbambheogbaa
