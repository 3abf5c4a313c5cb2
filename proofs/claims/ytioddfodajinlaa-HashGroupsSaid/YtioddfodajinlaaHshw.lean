/- The reference's Group by a table. -/
import Derived.IntWalk
import Derived.Test.YtioddfodajinlaaHshv
namespace Go.Proofs.Ytioddfodajinlaa
open Go.RowKit
attribute [local go_sem] Oper.semAt_some
theorem app_gr2 {B B' C c m : Nat} {X : World} {v : Value} {us us2 : List V5} {J J2 : List Cel} {A : Option Addr} (h : GRs B X v us J) (h2 : GRs B' X (.slice A m c) us2 J2) (hb : B ≤ B') (hl : us.length + m ≤ 1000000) (hB : B ≤ X.heap.size) (hC : C ≤ X.heap.size) (hv : Ab C v) :
    ∃ v' X3, (Builtin.append_ #[29, 29] 29 #[v, .slice A m c]).run Try.prog X = .ok v' X3 ∧ GRs B X3 v' (us ++ us2) (J ++ J2) ∧ Below C X X3 ∧ Ab C v' := by
  obtain ⟨hul, hmc, hp1, hp2, -, -⟩ := h2.parts (i := m) (Nat.le_refl _)
  have ht : us2.take m = us2 := List.take_of_length_le (by omega)
  rw [ht] at hp1
  exact app_part (C := C) h (h2.2.mono hb) hul.symm hmc hp2 hp1 hl hB hC hv
set_option maxRecDepth 100000 in
set_option maxHeartbeats 8000000 in
theorem rtGroup_any (P : Option Addr) (c N slots dd mm : Nat) (L : List Cel) (w : World) (hl : RowC w P N L) (hN : N = L.length) (hn : N ≤ 60) (hF : Fit dd 0 L) (hok : OkL dd mm L) (hdd : dd ≤ 4) (hmm : mm ≤ 2) (hs1 : 1 ≤ slots) (hs2 : slots ≤ 10000) :
    Calls Try.prog 24 #[.slice P N c, .int .i64 slots] w fun e w' => ∃ v us, e = .returned (.tuple #[v, .int .i64 ((partsP slots dd 0 L).length : Nat)]) ∧ GRs w.heap.size w' v us (grpR L) ∧ Below w.heap.size w w' := by
  have hP := rtParts_any dd P c N slots 0 dd mm L w hl hN hn hF (by omega) hok hdd hmm hs1 hs2
  have hfl := parts_flat slots dd dd 0 L (by omega) hF
  obtain ⟨ps, hps⟩ : ∃ z, z = partsP slots dd 0 L := ⟨_, rfl⟩
  have hpl : ps.length ≤ 1000 := by
    by_cases hle : (grpR L).length ≤ slots
    · rw [hps, parts_fit hle]; simp
    · have h1 := fit_lt hs1 (Nat.zero_le _) hF hle
      obtain ⟨f', rfl⟩ : ∃ f', dd = f' + 1 := ⟨dd - 1, by omega⟩
      have h2 := partsK_few (f := f') (a := 0) (k := 16) hs1 (by omega) hF hle (Nat.le_refl _)
      rw [← partsP_split hle, ← hps] at h2
      have := grp_len_le L
      omega
  have hgl : (grpR L).length ≤ 60 := Nat.le_trans (grp_len_le L) (by omega)
  rw [← hps] at hP hfl ⊢
  obtain ⟨NP, hNP⟩ : ∃ z, z = ps.length := ⟨_, rfl⟩
  rw [← hNP] at hpl ⊢
  have HP := Lib.hid hP
  have HFL := Lib.hid hfl
  have HGL := Lib.hid hgl
  clear hl hN hF hok hP hfl hps hgl
  go_enter Try.func24, Try.ntmps24
  go_wp2_with fail
  refine HP.out.mono ?_
  rintro e w1 ⟨v1, us1, rfl, hg1, hb1⟩
  obtain ⟨P1, c1, e1, -, hcell⟩ := hg1.form
  have hun := hg1.2.1
  rw [hun, ← hNP] at e1
  have HG1 := Lib.hid hg1
  have HUN := Lib.hid (show us1.length = NP by rw [hun, hNP])
  have HNP := Lib.hid hNP
  have Hb1 := Lib.hid hb1
  clear hg1 hun hNP hb1 hcell HP
  subst e1
  go_wp2_with fail
  go_loopw [7, 8] (fun out i wr => ∃ (k : Nat) (us : List V5), i = .int .i64 k ∧ k ≤ NP ∧ GRs w.heap.size wr out us (ps.take k).flatten ∧ Ab w1.heap.size out ∧ Below w1.heap.size w1 wr) (fun _ i _ => NP - (intOf i).toNat)
  case atStart => exact ⟨0, [], rfl, Nat.zero_le _, by rw [List.take_zero]; exact GRs.nil _ _, (fun b h => by cases h), Below.refl _ _⟩
  case round =>
    obtain ⟨k, us, rfl, hk, hg, hab, hb⟩ := hrel
    rename World => wr
    obtain ⟨Po, co, e0, -⟩ := hg.form
    have hul := hg.len
    have hu60 : us.length ≤ 60 := by
      rw [hul]
      refine Nat.le_trans ?_ HGL.out
      rw [← HFL.out]
      rw [← List.take_append_drop k ps, List.flatten_append, List.length_append]
      simp
    obtain ⟨nu, hnu⟩ : ∃ z, z = us.length := ⟨_, rfl⟩
    by_cases hlt : k < NP
    · have i0 : (0 : Int) ≤ (k : Int) := by omega
      have i1 : (k : Int) < (NP : Int) := by omega
      have d1 : decide ((k : Int) < (NP : Int)) = true := decide_eq_true i1
      have hGx := HG1.out.below hb
      obtain ⟨u, hu⟩ : ∃ u, us1[k]? = some u := ⟨_, List.getElem?_eq_getElem (by rw [HUN.out]; exact hlt)⟩
      obtain ⟨J, hJ⟩ : ∃ J, ps[k]? = some J := ⟨_, List.getElem?_eq_getElem (by rw [← HNP.out]; exact hlt)⟩
      obtain ⟨zs, hz⟩ := hGx.2.2 k u J hu hJ
      obtain ⟨Pf, cf, ef, -, hcf⟩ := hGx.form
      injection ef with ef1 ef2 ef3
      obtain ⟨g, egf, hcc⟩ := hcf (by rw [HUN.out]; omega)
      rw [egf] at ef1
      have p0 := hcc k u hu
      obtain ⟨Pu, cu, eu, -⟩ := hz.form
      have htk : (ps.take (k + 1)).flatten = (ps.take k).flatten ++ J := by rw [List.take_add_one, hJ, Option.toList_some, List.flatten_append]; simp
      have hzl : zs.length ≤ 60 := by
        rw [hz.len]
        refine Nat.le_trans ?_ HGL.out
        rw [← HFL.out, ← List.take_append_drop (k + 1) ps, List.flatten_append, htk, List.length_append, List.length_append]
        omega
      obtain ⟨nz, hnz⟩ : ∃ z, z = zs.length := ⟨_, rfl⟩
      rw [← hnz] at eu
      rw [eu] at hz p0
      obtain ⟨v', Y, hrun, hg', hbY, hab'⟩ := app_gr2 hg hz (Nat.le_refl _) (by omega) (Nat.le_trans Hb1.out.size hb.size) hb.size hab
      rw [← htk] at hg'
      obtain ⟨P', c', e', -⟩ := hg'.form
      rw [List.length_append] at e'
      have Hrun := Lib.hid hrun
      have HE := Lib.hid (show GRs w.heap.size Y v' (us ++ zs) (ps.take (k + 1)).flatten ∧ Ab w1.heap.size v' ∧ Below w1.heap.size w1 Y from ⟨hg', hab', hb.trans hbY⟩)
      clear hGx hu hJ hz hcf hcc htk hzl hrun hg' hbY hab' hg hab hb egf ef2 ef3 hul hu60 eu hnz
      subst ef1
      rw [← hnu] at e0
      clear hnu
      subst e0
      subst e'
      go_wp2_with (at_builtin; have _t := Hrun; refine wpList_append_eq rfl (.tmp 18) (.tmp 22) 29 rfl _ _ _ _ rfl rfl Hrun.out ?_; clear _t Hrun)
      go_roundw
      case rel => exact ⟨k + 1, _, by go_num, by omega, HE.out⟩
      case measure => simp [intOf]; omega
    · obtain rfl : k = NP := by omega
      have d1 : decide ((k : Int) < (k : Int)) = false := by simp
      have ht : ps.take k = ps := List.take_of_length_le (by rw [HNP.out]; exact Nat.le_refl _)
      rw [ht, HFL.out] at hg
      have HE := Lib.hid (show GRs w.heap.size wr _ us (grpR L) ∧ Below w.heap.size w wr from ⟨hg, Hb1.out.trans (hb.mono Hb1.out.size)⟩)
      clear hg hb hab hul ht hu60
      rw [← hnu] at e0
      clear hnu
      subst e0
      go_wp2
      go_ret2
      exact ⟨_, _, rfl, HE.out.1, HE.out.2⟩
end Go.Proofs.Ytioddfodajinlaa
