/- The reference's Facts: the group-by of facts. -/
import Derived.Test.YtaaciedelfaekaaDoorRput
namespace Go.Proofs.YtaaciedelfaekaaDoor
open Go.RowKit Go.Shelf
theorem ofC_even {set : Int} {me : Nat} {l : List Fact} (hl : ∀ r ∈ l, r.key.length ≤ 4 ∧ r.m.length = me) : ∀ x ∈ l.map (ofC set), EvenC me x ∧ x.key.length ≤ 1000000 := fun x hx => by
  obtain ⟨r, hr, rfl⟩ := List.mem_map.1 hx
  obtain ⟨h1, h2⟩ := hl r hr
  refine ⟨⟨h2, h2, h2⟩, ?_⟩
  have := pk_len r.key set r.key.length
  show (pk r.key set r.key.length).length ≤ 1000000
  omega
theorem grp_ok {me : Nat} {L : List Cel} (h : ∀ x ∈ L, EvenC me x ∧ x.key.length ≤ 1000000) : ∀ x ∈ grpR L, EvenC me x ∧ x.key.length ≤ 1000000 := fun x hx => by
  refine ⟨grp_even L [] (fun x h => by cases h) (fun y hy => (h y hy).1) x hx, ?_⟩
  rcases grp_keys L [] x hx with ⟨z, hz, _⟩ | ⟨z, hz, e⟩
  · cases hz
  · rw [← e]; exact (h z hz).2
theorem grp_le (L : List Cel) : (grpR L).length ≤ L.length := by have := grp_lt L []; simpa [grpR] using this
set_option maxRecDepth 100000 in
set_option maxHeartbeats 4000000 in
theorem rFacts_any (D : Option Addr) (m d C me : Nat) (set : Int) (l : List Fact) (w : World) (hR : RowsX w C (.slice D m d) l) (hm : l.length = m) (hm40 : m ≤ 40) (hs : ∀ r ∈ l, (∀ x ∈ r.key, inK .i64 x) ∧ ∀ x ∈ r.m, inK .i64 x) (hl : ∀ r ∈ l, r.key.length ≤ 4 ∧ r.m.length = me) (hme : me ≤ 100000) (s1 : 0 ≤ set) (s2 : set ≤ 15) :
    Calls Tryd.prog 24 #[.slice D m d, .int .i64 set] w fun e w' => ∃ v us, e = .returned v ∧ GRs w.heap.size w' v us (grpR (l.map (ofC set))) ∧ Below w.heap.size w w' := by
  have HR := Lib.hid hR
  have HM := Lib.hid hm
  have HS := Lib.hid hs
  have HL := Lib.hid hl
  clear hR hm hs hl
  go_enter Tryd.func24, Tryd.ntmps24
  go_wp2_with fail
  go_loopw [5, 6] (fun s5 s6 wr => ∃ (i : Nat) (us : List V5), s6 = .int .i64 i ∧ i ≤ m ∧ GRs w.heap.size wr s5 us (grpR ((l.take i).map (ofC set))) ∧ Below w.heap.size w wr) (fun _ s6 _ => m - (intOf s6).toNat)
  case atStart => exact ⟨0, [], rfl, Nat.zero_le _, GRs.nil _ _, Below.refl _ _⟩
  case round =>
    obtain ⟨i, us, rfl, hi, hg, hb⟩ := hrel
    rename World => wr
    by_cases hlt : i < m
    · have d1 : decide ((i : Int) < (m : Int)) = true := decide_eq_true (by omega)
      obtain ⟨r, hr⟩ : ∃ r, l[i]? = some r := ⟨_, List.getElem?_eq_getElem (by rw [HM.out]; exact hlt)⟩
      have hrm := List.mem_of_getElem? hr
      obtain ⟨l1, l2⟩ := HL.out r hrm
      obtain ⟨ad, kv, mv, rfl, c0, c1, r1, r2⟩ := (HR.out.below hb (Nat.le_refl _)).at_ HS.out HM.out hr
      have hof := rOf_any kv mv r.key r.m set wr r1 r2 l1 (by omega) s1 s2
      have htk : ∀ r' ∈ l.take i, r'.key.length ≤ 4 ∧ r'.m.length = me := fun r' h => HL.out r' (List.mem_of_mem_take h)
      have hok := grp_ok (ofC_even (set := set) htk)
      have hxe : EvenC me (ofC set r) ∧ (ofC set r).key.length ≤ 1000000 := ofC_even (set := set) HL.out _ (List.mem_map.2 ⟨r, hrm, rfl⟩)
      have hlt2 : grpR ((l.take (i + 1)).map (ofC set)) = putC (grpR ((l.take i).map (ofC set))) (ofC set r) := by rw [List.take_add_one, hr, List.map_append, ← grpR_snoc]; rfl
      have hlen : (grpR ((l.take i).map (ofC set))).length ≤ 40 := by
        have := grp_le ((l.take i).map (ofC set))
        rw [List.length_map, List.length_take] at this
        omega
      obtain ⟨Q, qc, fq, -⟩ := hg.form
      have hul := hg.len
      obtain ⟨nq, hnq⟩ : ∃ nq, nq = us.length := ⟨_, rfl⟩
      rw [← hnq] at fq hul
      subst fq
      have hput := fun (X1 : World) (k s n mm : Value) (hc : CO wr.heap.size X1 k s n mm (ofC set r)) (hbx : Below wr.heap.size wr X1) =>
        rPut_any w.heap.size Q nq qc us _ k s n mm (ofC set r) me X1 (hg.below hbx) hc.cr (fun y hy => (hok y hy).1) hxe.1 (fun y hy => (hok y hy).2) hxe.2 (by omega) hme ⟨by show (-9223372036854775808 : Int) ≤ 1; omega, by show (1 : Int) ≤ 9223372036854775807; omega⟩ (Nat.le_trans hb.size hbx.size)
      rw [← hlt2] at hput
      have Hof := Lib.hid hof
      have Hput := Lib.hid hput
      have Hb := Lib.hid hb
      have i0 : (0 : Int) ≤ (i : Int) := by omega
      have i1 : (i : Int) < (m : Int) := by omega
      have c1' : wr.cell? ⟨(ad.add (i * 2)).block, (ad.add (i * 2)).off + 1, none⟩ = some mv := by
        have e : ad.add (i * 2 + 1) = ⟨(ad.add (i * 2)).block, (ad.add (i * 2)).off + 1, none⟩ := by rw [← add_of_add, Addr.add, if_neg (by omega)]
        rw [← e]; exact c1
      clear hof hput hg hb hr hrm r1 r2 c1 htk hok hxe hlt2 hlen hnq hul l1 l2
      go_wp2_with fail
      refine Hof.out.mono ?_
      rintro e X1 ⟨k, s, n, mm, rfl, hc, hbx⟩
      have hp := Hput.out X1 k s n mm hc hbx
      have HP := Lib.hid hp
      have Hbx := Lib.hid (Hb.out.trans (hbx.mono Hb.out.size))
      clear hp hc hbx Hput Hof
      go_wp2_with fail
      refine HP.out.mono ?_
      rintro e X2 ⟨v, us', rfl, hg', hb'⟩
      have HG := Lib.hid hg'
      have HB := Lib.hid (Hbx.out.trans (hb'.mono Hbx.out.size))
      clear hg' hb' HP Hbx
      go_wp2
      go_roundw
      case rel => exact ⟨i + 1, us', by go_num, by omega, HG.out, HB.out⟩
      case measure => simp [intOf]; omega
    · obtain rfl : i = m := by omega
      have d1 : decide ((i : Int) < (i : Int)) = false := by simp
      rw [List.take_of_length_le (by rw [HM.out]; exact Nat.le_refl _)] at hg
      have Hg := Lib.hid hg
      have Hb := Lib.hid hb
      clear hg hb
      go_wp2
      go_ret
      exact ⟨_, _, rfl, Hg.out, Hb.out⟩
end Go.Proofs.YtaaciedelfaekaaDoor
