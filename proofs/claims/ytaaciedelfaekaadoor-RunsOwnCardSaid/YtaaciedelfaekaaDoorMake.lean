/- The laws' within. -/
import Derived.Shelf.Abstract
import Derived.Test.YtaaciedelfaekaaDoorCel0
import Derived.Test.YtaaciedelfaekaaDoorSet
namespace Go.Proofs.YtaaciedelfaekaaDoor
open Go.RowKit Go.Shelf
attribute [local go_sem] Oper.semAt_some
set_option maxHeartbeats 400000 in
theorem lwithin5 (a n : Int) (w : World) (ha : inK .i64 a) (hn : 1 ≤ n) (hn2 : n ≤ 4611686018427387904) :
    Calls Tryd.prog 16 #[.int .i64 a, .int .i64 n] w fun e w' => e = .returned (.int .i64 (a % n)) ∧ w = w' := by
  obtain ⟨ha1, ha2⟩ := ha
  by_cases h : 0 ≤ a
  · have h1 := Int.emod_nonneg a (show n ≠ 0 by omega)
    go_enter Tryd.func16, Tryd.ntmps16
    go_wp2
    go_ret
    exact ⟨rfl, rfl⟩
  · have h1 := Int.emod_nonneg a (show n ≠ 0 by omega)
    have h2 := Int.emod_lt_of_pos a (show 0 < n by omega)
    have h3 := Int.tmod_eq_emod (a := a) (b := n)
    have h4 : a.tmod n = a % n ∨ a.tmod n = a % n - n := by
      rw [h3]
      split
      · simp
      · right; omega
    by_cases h5 : a.tmod n < 0
    · have e : a.tmod n + n = a % n := by omega
      have h6 : -n ≤ a.tmod n := by omega
      have E := Lib.hid e
      clear e h3 h4 h1 h2
      go_enter Tryd.func16, Tryd.ntmps16
      go_wp2
      go_ret
      exact ⟨ret_int E.out, rfl⟩
    · have e : a.tmod n = a % n := by omega
      have E := Lib.hid e
      clear e h3 h4 h1 h2
      go_enter Tryd.func16, Tryd.ntmps16
      go_wp2
      go_ret
      exact ⟨ret_int E.out, rfl⟩

end Go.Proofs.YtaaciedelfaekaaDoor
/- The laws' Make. -/
namespace Go.Proofs.YtaaciedelfaekaaDoor
open Go.RowKit Go.Shelf
set_option maxRecDepth 100000 in
set_option maxHeartbeats 4000000 in
theorem make_any (D : Option Addr) (m d C : Nat) (set : Int) (l : List Fact) (w : World) (hR : RowsX w C (.slice D m d) l) (hm : l.length = m) (hm40 : m ≤ 40) (hs : ∀ r ∈ l, (∀ x ∈ r.key, inK .i64 x) ∧ ∀ x ∈ r.m, inK .i64 x) (hl : ∀ r ∈ l, r.key.length ≤ 4 ∧ r.m.length ≤ 1000000) (s1 : 0 ≤ set) (s2 : set ≤ 15) :
    Calls Tryd.prog 14 #[.slice D m d, .int .i64 set] w fun e w' => ∃ v us, e = .returned v ∧ GRs w.heap.size w' v us (l.map (ofC set)) ∧ Below w.heap.size w w' := by
  have HR := Lib.hid hR
  have HM := Lib.hid hm
  have HS := Lib.hid hs
  have HL := Lib.hid hl
  clear hR hm hs hl
  go_enter Tryd.func14, Tryd.ntmps14
  go_wp2_with fail
  go_loopw [5, 6] (fun s5 s6 wr => ∃ (i : Nat) (us : List V5), s6 = .int .i64 i ∧ i ≤ m ∧ GRs w.heap.size wr s5 us ((l.take i).map (ofC set)) ∧ Below w.heap.size w wr) (fun _ s6 _ => m - (intOf s6).toNat)
  case atStart => exact ⟨0, [], rfl, Nat.zero_le _, GRs.nil _ _, Below.refl _ _⟩
  case round =>
    obtain ⟨i, us, rfl, hi, hg, hb⟩ := hrel
    rename World => wr
    by_cases hlt : i < m
    · have d1 : decide ((i : Int) < (m : Int)) = true := decide_eq_true (by omega)
      obtain ⟨r, hr⟩ : ∃ r, l[i]? = some r := ⟨_, List.getElem?_eq_getElem (by rw [HM.out]; exact hlt)⟩
      have hrm := List.mem_of_getElem? hr
      obtain ⟨l1, l2⟩ := HL.out r hrm
      obtain ⟨ad, kv, mv, rfl, c0, c1, r1, r2⟩ := (HR.out.below hb (Nat.le_refl _)).at_ HS.out HM.out hr
      have hof := rOf_any kv mv r.key r.m set wr r1 r2 l1 l2 s1 s2
      have hstep : ∀ X1 k s n mm, CO wr.heap.size X1 k s n mm ⟨pk r.key set r.key.length, 1, r.m, r.m, r.m⟩ → Below wr.heap.size wr X1 → ∃ v' X3, (Builtin.append_ #[29, 29] 29 #[u5, .slice (some ⟨X1.heap.size, 0, none⟩) 1 1]).run Tryd.prog (X1.alloc (.cells #[k, .int .i64 1, s, n, mm] 41)) = .ok v' X3 ∧
          (∃ us', GRs w.heap.size X3 v' us' ((l.take (i + 1)).map (ofC set))) ∧ Below w.heap.size w X3 := fun X1 k s n mm hc hbx => by
        have hg1 := hg.below hbx
        have hu : OwnC w.heap.size X1 ⟨k, .int .i64 1, s, n, mm⟩ (ofC set r) := ⟨rfl, hc.mono hb.size, ⟨by show (-9223372036854775808 : Int) ≤ 1; omega, by show (1 : Int) ≤ 9223372036854775807; omega⟩⟩
        have hul := hg.len
        rw [List.length_map, List.length_take] at hul
        obtain ⟨v', X3, hrun, hgr, hgb, -⟩ := append_one hg1 hu (by omega) (Nat.le_trans hb.size hbx.size)
        have hlt2 : (l.take (i + 1)).map (ofC set) = (l.take i).map (ofC set) ++ [ofC set r] := by rw [List.take_add_one, hr, List.map_append]; rfl
        refine ⟨v', X3, hrun, ⟨_, by rw [hlt2]; exact hgr⟩, ?_⟩
        have h1 : Below w.heap.size w (X1.alloc (.cells #[k, .int .i64 1, s, n, mm] 41)) := (hb.trans (hbx.mono hb.size)).alloc (Nat.le_trans hb.size hbx.size) _
        exact h1.grown hgb h1.size fun j e => (hg1.1.lt j e).1
      have Hof := Lib.hid hof
      have Hst := Lib.hid hstep
      have i0 : (0 : Int) ≤ (i : Int) := by omega
      have i1 : (i : Int) < (m : Int) := by omega
      have c1' : wr.cell? ⟨(ad.add (i * 2)).block, (ad.add (i * 2)).off + 1, none⟩ = some mv := by
        have e : ad.add (i * 2 + 1) = ⟨(ad.add (i * 2)).block, (ad.add (i * 2)).off + 1, none⟩ := by rw [← add_of_add, Addr.add, if_neg (by omega)]
        rw [← e]; exact c1
      clear hof hstep hg hb hr hrm r1 r2 c1
      go_wp2_with fail
      refine Hof.out.mono ?_
      rintro e X1 ⟨k, s, n, mm, rfl, hc, hbx⟩
      obtain ⟨v', X3, hrun, hfin, hb3⟩ := Hst.out X1 k s n mm hc hbx
      obtain ⟨Pk, ck, f1, -⟩ := hc.key.form
      obtain ⟨Ps, cs, f2, -⟩ := hc.sum.form
      obtain ⟨Pn, cn, f3, -⟩ := hc.mn.form
      obtain ⟨Pm, cm, f4, -⟩ := hc.mx.form
      subst f1 f2 f3 f4
      have Hrun := Lib.hid hrun
      have Hfin := Lib.hid hfin
      have Hb3 := Lib.hid hb3
      clear hrun hfin hb3 hc hbx Hst Hof
      go_wp2_with (at_builtin; have _t := Hrun; refine wpList_append_eq rfl (.tmp 13) (.tmp 20) 29 rfl _ _ _ _ rfl rfl Hrun.out ?_; clear _t Hrun)
      go_roundw
      case rel =>
        obtain ⟨us', hg'⟩ := Hfin.out
        exact ⟨i + 1, us', by go_num, by omega, hg', Hb3.out⟩
      case measure => simp [intOf]; omega
    · obtain rfl : i = m := by omega
      have d1 : decide ((i : Int) < (i : Int)) = false := by simp
      rw [List.take_of_length_le (by rw [HM.out]; exact Nat.le_refl _)] at hg
      have Hg := Lib.hid hg
      have Hb := Lib.hid hb
      clear hg hb
      go_wp2
      go_ret
      exact ⟨_, _, rfl, Hg.out, Hb.out⟩
end Go.Proofs.YtaaciedelfaekaaDoor
