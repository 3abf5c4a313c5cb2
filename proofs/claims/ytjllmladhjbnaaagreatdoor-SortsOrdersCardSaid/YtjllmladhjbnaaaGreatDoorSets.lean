/- Package lattice's Sets: sorted by how many dimensions. -/
import Derived.Test.YtjllmladhjbnaaaGreatDoorPar
namespace Go.Proofs.YtjllmladhjbnaaaGreatDoor
open Go.RowKit Go.Shelf
attribute [local go_sem] Oper.semAt_some
/-- cmp.Or of two numbers. -/
def orI (x y : Int) : Int := if x = 0 then y else x
set_option maxHeartbeats 1000000 in
theorem or_any (x y : Int) (g : Nat) (w : World) (h0 : w.cell? ⟨g, 0, none⟩ = some (.int .i64 x)) (h1 : w.cell? ⟨g, 1, none⟩ = some (.int .i64 y)) :
    Calls Tryz.prog 51 #[.slice (some ⟨g, 0, none⟩) 2 2] w fun e w' => e = .returned (.int .i64 (orI x y)) ∧ w = w' := by
  go_enter Tryz.func51, Tryz.ntmps51
  go_wp2
  go_loop [8] (fun v => ∃ k : Nat, v = .int .i64 k ∧ k ≤ 2 ∧ (1 ≤ k → x = 0) ∧ (2 ≤ k → y = 0)) (fun v => 2 - (intOf v).toNat)
  case atStart => exact ⟨0, rfl, by omega, by omega, by omega⟩
  case round =>
    obtain ⟨k, rfl, hk, hx, hy⟩ := hrel
    rcases (by omega : k = 0 ∨ k = 1 ∨ k = 2) with rfl | rfl | rfl
    · clear hx hy hk
      by_cases hx : x = 0
      · have e := Lib.hid hx
        have hb : (x != 0) = false := by simpa using hx
        clear hx
        go_wp2
        go_round
        case rel => exact ⟨1, rfl, by omega, fun _ => e.out, by omega⟩
        case measure => simp [intOf]
      · have e : orI x y = x := if_neg hx
        have hb : (x != 0) = true := by simpa using hx
        have E := Lib.hid e
        clear hx e
        go_wp2
        go_ret
        exact ⟨ret_int E.out.symm, rfl⟩
    · have hx0 := Lib.hid (hx (by omega))
      clear hx hy hk
      by_cases hy : y = 0
      · have e := Lib.hid hy
        have hb : (y != 0) = false := by simpa using hy
        clear hy
        go_wp2
        go_round
        case rel => exact ⟨2, rfl, by omega, fun _ => hx0.out, fun _ => e.out⟩
        case measure => simp [intOf]
      · have e : orI x y = y := if_pos hx0.out
        have hb : (y != 0) = true := by simpa using hy
        have E := Lib.hid e
        clear hy e hx0
        go_wp2
        go_ret
        exact ⟨ret_int E.out.symm, rfl⟩
    · have e : orI x y = 0 := by unfold orI; rw [if_pos (hx (by omega))]; exact hy (by omega)
      have E := Lib.hid e
      clear hx hy hk e
      go_wp2
      go_ret
      exact ⟨ret_int E.out.symm, rfl⟩
/-- Sets in their order: those of more dimensions first, then by number. -/
def cfS (x y : Int) : Int := orI (cmpI (lvl y) (lvl x)) (cmpI x y)
set_option maxHeartbeats 1000000 in
theorem sets1_any (x y : Int) (w : World) (h1 : 0 ≤ x) (h2 : x ≤ 15) (h3 : 0 ≤ y) (h4 : y ≤ 15) (hT : Tab w) (hw1 : 1 < w.heap.size) :
    Calls Tryz.prog 50 #[.int .i64 x, .int .i64 y] w fun e w' => e = .returned (.int .i64 (cfS x y)) ∧ Below w.heap.size w w' ∧ w'.drawn = w.drawn := by
  have HY := Lib.hid (level_any y w h3 h4 hT hw1)
  have HT := Lib.hid hT
  obtain ⟨r, hr⟩ : ∃ r, r = cfS x y := ⟨_, rfl⟩
  have HR := Lib.hid hr
  rw [← hr]
  clear hT hr
  go_enter Tryz.func50, Tryz.ntmps50
  go_wp2_with fail
  refine HY.out.mono ?_
  rintro e w1 ⟨rfl, hb1, hd1⟩
  have HB1 := Lib.hid hb1
  have HD1 := Lib.hid hd1
  have hz1 := hb1.size
  clear hb1 hd1
  go_wp2_with fail
  refine (level_any x w1 h1 h2 (HT.out.keep (Keeps.of_below HB1.out)) (by omega)).mono ?_
  rintro e w2 ⟨rfl, hb2, hd2⟩
  have HB2 := Lib.hid (HB1.out.trans (hb2.mono hz1))
  have HD2 := Lib.hid (hd2.trans HD1.out)
  clear hb2 hd2 HB1 HD1
  go_wp2_with fail
  refine (cmp_any (lvl y) (lvl x) w2).mono ?_
  rintro e w' ⟨rfl, rfl⟩
  go_wp2_with fail
  refine (cmp_any x y w2).mono ?_
  rintro e w' ⟨rfl, rfl⟩
  go_wp2_with fail
  refine (or_any (cmpI (lvl y) (lvl x)) (cmpI x y) w2.heap.size _ (by simp) (by simp)).mono ?_
  rintro e w' ⟨rfl, rfl⟩
  go_wp2
  go_ret
  exact ⟨ret_int HR.out.symm, HB2.out.alloc HB2.out.size _, HD2.out⟩
end Go.Proofs.YtjllmladhjbnaaaGreatDoor
