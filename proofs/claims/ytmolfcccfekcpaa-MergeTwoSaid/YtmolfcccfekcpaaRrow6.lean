/- Package merge: pass by pass. -/
import Derived.IntWalk
import Derived.Shelf.Abstract
import Derived.Test.YtmolfcccfekcpaaHpV
import Derived.Test.YtmolfcccfekcpaaHpC
import Derived.Test.YtmolfcccfekcpaaCelg
import Derived.Test.YtmolfcccfekcpaaCel0
import Derived.Test.YtmolfcccfekcpaaSet
import Derived.Test.YtmolfcccfekcpaaGood5
import Derived.Test.YtmolfcccfekcpaaDeal
import Derived.Test.YtmolfcccfekcpaaRef5b
import Derived.Test.YtmolfcccfekcpaaRmrg
namespace Go.Proofs.Ytmolfcccfekcpaa
open Go.RowKit Go.Shelf Go.Sort
attribute [local go_sem] Oper.semAt_some
/-- Runs that may be merged. -/
def MPk (me : Nat) (Js : List (List Cel)) : Prop := (∀ J ∈ Js, RiseC J) ∧ (∀ x ∈ Js.flatten, EvenC me x ∧ x.key.length ≤ 1000000) ∧ Js.flatten.length ≤ 1000
theorem MPk.keys {me : Nat} {Js : List (List Cel)} (h : MPk me Js) : ∀ J ∈ Js, ∀ x ∈ J, x.key.length ≤ 1000000 := fun J hJ x hx => (h.2.1 x (List.mem_flatten.2 ⟨J, hJ, hx⟩)).2
theorem MPk.even {me : Nat} {Js : List (List Cel)} (h : MPk me Js) : ∀ J ∈ Js, ∀ x ∈ J, EvenC me x := fun J hJ x hx => (h.2.1 x (List.mem_flatten.2 ⟨J, hJ, hx⟩)).1
theorem MPk.pass {me f : Nat} {Js : List (List Cel)} (hf : 1 ≤ f) (h : MPk me Js) : MPk me (passP f Js) :=
  ⟨pass_rise f Js, pass_p (p := fun x => EvenC me x ∧ x.key.length ≤ 1000000) (fun _ _ hy hc => ⟨join_even hy.1 hc.1, hy.2⟩) hf h.2.1, Nat.le_trans (pass_flen hf Js) h.2.2⟩
def slLen : Value → Nat
  | .slice _ n _ => n
  | _ => 0
/-- What merge answers. -/
def MrgR (w : World) (G : List Cel) (p : Nat) (e : Ending) (w' : World) : Prop := (∃ A c, e = .returned (.tuple #[.slice A G.length c, .int .i64 (p : Int)]) ∧ RowC w' A G.length G) ∧ Below w.heap.size w w'
set_option maxRecDepth 100000 in
set_option maxHeartbeats 8000000 in
theorem hmerge_any (P : Option Addr) (c N me f : Nat) (Js : List (List Cel)) (w : World) (hN : N = Js.length) (hN1 : N ≤ 1000) (hNc : N ≤ c) (hf1 : 2 ≤ f) (hf2 : f ≤ 9223372036854775807) (hR : RCc w P N Js) (hk : MPk me Js) (hme : me ≤ 1000000) :
    Calls Try.prog 35 #[.agg #[.func (.func 45) #[] #[], .func (.func 47) #[] #[]], .slice P N c, .int .i64 (f : Int)] w (MrgR w (grpR Js.flatten) (passN f N)) := by
  have HR := Lib.hid hR
  have HK := Lib.hid hk
  have HNN := Lib.hid (And.intro hN (And.intro hN1 (And.intro hNc (And.intro hf1 hf2))))
  obtain ⟨X0, hX0⟩ : ∃ X0, X0 = w.alloc (.cells #[.func (.func 45) #[] #[], .func (.func 47) #[] #[]] 60) := ⟨_, rfl⟩
  have HB0 := Lib.hid (show Below w.heap.size w X0 from by rw [hX0]; exact (Below.refl _ _).alloc (Nat.le_refl _) _)
  have HO0 := Lib.hid (show Own 60 X0 w.heap.size [.func (.func 45) #[] #[], .func (.func 47) #[] #[]] from by rw [hX0]; exact heap_alloc_new w _)
  have HX0 := Lib.hid hX0
  obtain ⟨b3, hb3⟩ : ∃ b, b = w.heap.size := ⟨_, rfl⟩
  rw [← hb3] at HO0
  have HB3 := Lib.hid hb3
  clear hR hk hN hN1 hNc hf1 hf2 hX0 hb3
  go_enter Try.func35, Try.ntmps35
  go_wp2_with fail
  rw [← HX0.out, ← HB3.out]
  go_loopw [1, 7] (fun s1 s7 wr => ∃ (Ks : List (List Cel)) (A : Option Addr) (n q p : Nat), s1 = .slice A n q ∧ s7 = .int .i64 (p : Int) ∧ (n = Ks.length ∧ n ≤ 1000 ∧ n ≤ q) ∧ RCc wr A n Ks ∧ MPk me Ks ∧ grpR Ks.flatten = grpR Js.flatten ∧ (p + passN f n = passN f N ∧ p + n ≤ 1000) ∧ Own 60 wr b3 [.func (.func 45) #[] #[], .func (.func 47) #[] #[]] ∧ Below w.heap.size w wr) (fun s1 _ _ => slLen s1)
  case atStart => exact ⟨Js, P, N, c, 0, rfl, rfl, ⟨HNN.out.1, HNN.out.2.1, HNN.out.2.2.1⟩, HR.out.keep (Keeps.of_below HB0.out), HK.out, rfl, ⟨by omega, by have := HNN.out.2.1; omega⟩, HO0.out, HB0.out⟩
  case round =>
    obtain ⟨Ks, A, n, q, p, rfl, rfl, hn, hR, hM, hG, hp, ho, hb⟩ := hrel
    rename World => wr
    have HM := Lib.hid hM
    have HG := Lib.hid hG
    have HP := Lib.hid hp
    have HN := Lib.hid hn
    have HB := Lib.hid hb
    have HRK := Lib.hid hR
    have r0 := ho.cell (i := 0) rfl
    have r1 := ho.cell (i := 1) rfl
    have HO := Lib.hid ho
    have hn1 : n ≤ 1000 := hn.2.1
    clear hM hG hp hb hn ho hR
    by_cases h1 : 1 < n
    · have e8 : decide ((1 : Int) < (n : Int)) = true := by simp; omega
      have e9 : decide (1 < n) = true := by simp; omega
      have HPS := Lib.hid (hpass_any A q n me f Ks wr HN.out.1 HN.out.2.1 HN.out.2.2 (by have := HNN.out.2.2.2.1; omega) HNN.out.2.2.2.2 HRK.out HM.out.keys HM.out.1 HM.out.even hme HM.out.2.2)
      have hwr : IntKind.i64.wrap ((p : Int) + 1) = ((p + 1 : Nat) : Int) := by rw [IntWalk.i64_in _ (by have := HP.out.2; omega)]; rfl
      have H1 := Lib.hid h1
      clear h1
      go_wp2_with fail
      refine HPS.out.mono ?_
      rintro e w2 ⟨⟨A2, c2, rfl, hR2, hlc2⟩, hb2⟩
      have hpl := pass_len (f := f) (by have := HNN.out.2.2.2.1; omega) Ks
      have hlt := ceil_lt (f := f) (n := n) H1.out HNN.out.2.2.2.1
      have HE := Lib.hid (show ((passP f Ks).length = (passP f Ks).length ∧ (passP f Ks).length ≤ 1000 ∧ (passP f Ks).length ≤ c2) ∧ RCc w2 A2 (passP f Ks).length (passP f Ks) ∧ MPk me (passP f Ks) ∧ grpR (passP f Ks).flatten = grpR Js.flatten ∧ (p + 1 + passN f (passP f Ks).length = passN f N ∧ p + 1 + (passP f Ks).length ≤ 1000) ∧ Own 60 w2 b3 [.func (.func 45) #[] #[], .func (.func 47) #[] #[]] ∧ Below w.heap.size w w2 from ⟨⟨rfl, by rw [hpl, ← HN.out.1]; omega, hlc2⟩, hR2, HM.out.pass (by have := HNN.out.2.2.2.1; omega), by rw [pass_grp (by have := HNN.out.2.2.2.1; omega)]; exact HG.out, ⟨by rw [hpl, ← HN.out.1, ← HP.out.1, passN_more H1.out HNN.out.2.2.2.1]; omega, by rw [hpl, ← HN.out.1]; have := HP.out.2; omega⟩, HO.out.below hb2 HO.out.lt, HB.out.trans (hb2.mono HB.out.size)⟩)
      have HLT := Lib.hid (show (passP f Ks).length < n from by rw [hpl, ← HN.out.1]; exact hlt)
      clear hR2 hlc2 hb2 hpl hlt
      obtain ⟨n2, hgn⟩ : ∃ z, z = (passP f Ks).length := ⟨_, rfl⟩
      rw [← hgn] at HLT ⊢
      have HGN := Lib.hid hgn
      clear hgn
      go_wp2_with fail
      go_roundw
      case rel => exact ⟨passP f Ks, A2, n2, c2, p + 1, rfl, by go_num, by rw [HGN.out]; exact ⟨⟨rfl, HE.out.1.2⟩, HE.out.2⟩⟩
      case measure => exact HLT.out
    · have e8 : decide ((1 : Int) < (n : Int)) = false := by simp; omega
      have e9 : decide (1 < n) = false := by simp; omega
      by_cases h2 : n = 1
      · subst h2
        obtain ⟨K, hK⟩ : ∃ K, Ks = [K] := List.length_eq_one_iff.1 HN.out.1.symm
        obtain ⟨ad, rfl, hc⟩ := HRK.out (by omega)
        obtain ⟨Pi, ci, c1, hrow, -⟩ := hc 0 K (by rw [hK]; rfl)
        rw [show ad.add 0 = ad from by simp [Addr.add]] at c1
        have hGK : grpR Js.flatten = K := by
          rw [← HG.out, hK]
          have := grpR_self (HM.out.1 K (by rw [hK]; simp))
          simpa using this
        have hpp : passN f N = p := by
          have := HP.out.1
          rw [passN_one (Nat.le_refl 1)] at this
          omega
        have HF := Lib.hid (show MrgR w (grpR Js.flatten) (passN f N) (.returned (.tuple #[.slice Pi K.length ci, .int .i64 (p : Int)])) wr from ⟨⟨Pi, ci, by rw [hGK, hpp], by rw [hGK]; exact hrow⟩, HB.out⟩)
        obtain ⟨kl, hkl⟩ : ∃ z, z = K.length := ⟨_, rfl⟩
        rw [← hkl] at HF c1
        clear hK hc hrow hGK hpp hkl h1 r0 r1
        go_wp2_with fail
        go_ret2
        exact HF.out
      · have h3 : n = 0 := by omega
        subst h3
        have hK : Ks = [] := List.length_eq_zero_iff.1 HN.out.1.symm
        have hGK : grpR Js.flatten = [] := by rw [← HG.out, hK]; rfl
        have hpp : passN f N = p := by
          have := HP.out.1
          rw [passN_one (Nat.zero_le 1)] at this
          omega
        have HF := Lib.hid (show MrgR w (grpR Js.flatten) (passN f N) (.returned (.tuple #[.slice none 0 0, .int .i64 (p : Int)])) wr from ⟨⟨none, 0, by rw [hGK, hpp]; rfl, fun h => by rw [hGK] at h; cases h⟩, HB.out⟩)
        clear hK hGK hpp h1 h2 r0 r1
        go_wp2_with fail
        go_ret2
        exact HF.out
end Go.Proofs.Ytmolfcccfekcpaa
/- Package merge: Merge and Two. -/
namespace Go.Proofs.Ytmolfcccfekcpaa
open Go.RowKit Go.Shelf Go.Sort
attribute [local go_sem] Oper.semAt_some
theorem MPk.grp {me : Nat} {Js : List (List Cel)} (h : MPk me Js) : ∀ x ∈ grpR Js.flatten, EvenC me x ∧ x.key.length ≤ 1000000 := grp_pM (p := fun x => EvenC me x ∧ x.key.length ≤ 1000000) (fun _ _ hy hc => ⟨join_even hy.1 hc.1, hy.2⟩) Js.flatten [] h.2.1 (fun y hy => by cases hy)
theorem MPk.lens {me : Nat} {Js : List (List Cel)} (h : MPk me Js) (hme : me ≤ 1000000) : ∀ x ∈ grpR Js.flatten, x.key.length ≤ 1000000 ∧ x.sum.length ≤ 1000000 ∧ x.mn.length ≤ 1000000 ∧ x.mx.length ≤ 1000000 := fun x hx => by
  obtain ⟨⟨a, b, c⟩, d⟩ := h.grp x hx
  exact ⟨d, by omega, by omega, by omega⟩
theorem MPk.glen {me : Nat} {Js : List (List Cel)} (h : MPk me Js) : (grpR Js.flatten).length ≤ 1000 := by
  have := grp_lt Js.flatten []
  rw [show Js.flatten.foldl putC [] = grpR Js.flatten from rfl, List.length_nil] at this
  have := h.2.2
  omega
set_option maxRecDepth 100000 in
set_option maxHeartbeats 8000000 in
theorem mMerge_any (P : Option Addr) (c N me f : Nat) (Js : List (List Cel)) (w : World) (hN : N = Js.length) (hN1 : N ≤ 1000) (hNc : N ≤ c) (hf1 : 2 ≤ f) (hf2 : f ≤ 9223372036854775807) (hR : RCc w P N Js) (hk : MPk me Js) (hme : me ≤ 1000000) :
    Calls Try.prog 19 #[.slice P N c, .int .i64 (f : Int)] w fun e w' => (∃ v us, e = .returned (.tuple #[v, .int .i64 (passN f N : Int)]) ∧ GRs w.heap.size w' v us (grpR Js.flatten)) ∧ Below w.heap.size w w' := by
  have HFIT := Lib.hid (hfit_any P c N me Js w hN hN1 hR hk.keys hk.1 hk.even hme hk.2.2)
  have HR := Lib.hid hR
  have HMG := Lib.hid (fun (X : World) (hx : Below w.heap.size w X) => hmerge_any P c N me f Js X hN hN1 hNc hf1 hf2 (hR.keep (Keeps.of_below hx)) hk hme)
  have HLE := Lib.hid (And.intro (hk.lens hme) hk.glen)
  obtain ⟨G, hG⟩ : ∃ G, G = grpR Js.flatten := ⟨_, rfl⟩
  obtain ⟨pp, hpp⟩ : ∃ p, p = passN f N := ⟨_, rfl⟩
  rw [← hG] at HMG HLE ⊢
  rw [← hpp] at HMG ⊢
  have d1 : decide ((f : Int) < 2) = false := by simp; omega
  clear hR hk hN hN1 hNc hf1 hf2 hG hpp
  go_enter Try.func19, Try.ntmps19
  go_wp2_with fail
  refine HFIT.out.mono ?_
  rintro e w1 ⟨rfl, hb1⟩
  have HB1 := Lib.hid hb1
  clear hb1
  go_wp2_with fail
  refine (bykeys_any w1).mono ?_
  rintro e w2 ⟨rfl, hb2⟩
  have HB2 := Lib.hid (HB1.out.trans (hb2.mono HB1.out.size))
  clear hb2
  go_wp2_with fail
  refine (HMG.out w2 HB2.out).mono ?_
  rintro e w3 ⟨⟨A, c3, rfl, hrow⟩, hb3⟩
  have HB3 := Lib.hid (HB2.out.trans (hb3.mono HB2.out.size))
  have HCL := Lib.hid (mcloned_any A c3 G.length G w3 hrow rfl (by have := HLE.out.2; omega) HLE.out.1)
  clear hrow hb3
  obtain ⟨gn, hgn⟩ : ∃ z, z = G.length := ⟨_, rfl⟩
  rw [← hgn] at HCL ⊢
  clear hgn
  go_wp2_with fail
  refine HCL.out.mono ?_
  rintro e w4 ⟨⟨v, us, rfl, hg⟩, hb4⟩
  have HF := Lib.hid (show (∃ v' us, Ending.returned (.tuple #[v, .int .i64 (pp : Int)]) = .returned (.tuple #[v', .int .i64 (pp : Int)]) ∧ GRs w.heap.size w4 v' us G) ∧ Below w.heap.size w w4 from ⟨⟨v, us, rfl, hg.mono HB3.out.size⟩, HB3.out.trans (hb4.mono HB3.out.size)⟩)
  obtain ⟨P4, c4, hv, -⟩ := hg.form
  clear hg hb4
  subst hv
  go_wp2_with fail
  go_ret2
  exact HF.out
set_option maxRecDepth 100000 in
set_option maxHeartbeats 8000000 in
theorem mTwo_any (Pa Pb : Option Addr) (ca cb na nb me : Nat) (La Lb : List Cel) (w : World) (ha : RowC w Pa na La) (hb : RowC w Pb nb Lb) (hna : na = La.length) (hnb : nb = Lb.length) (hca : na ≤ ca) (hcb : nb ≤ cb) (hk : MPk me [La, Lb]) (hme : me ≤ 1000000) :
    Calls Try.prog 23 #[.slice Pa na ca, .slice Pb nb cb] w fun e w' => (∃ v us, e = .returned v ∧ GRs w.heap.size w' v us (grpR (La ++ Lb))) ∧ Below w.heap.size w w' := by
  obtain ⟨X0, hX0⟩ : ∃ X0, X0 = w.alloc (.cells #[.slice Pa na ca, .slice Pb nb cb] 31) := ⟨_, rfl⟩
  have hb0 : Below w.heap.size w X0 := by rw [hX0]; exact (Below.refl _ _).alloc (Nat.le_refl _) _
  have o0 : Own 31 X0 w.heap.size [.slice Pa na ca, .slice Pb nb cb] := by rw [hX0]; exact heap_alloc_new w _
  obtain ⟨b0, hb0e⟩ : ∃ b, b = w.heap.size := ⟨_, rfl⟩
  rw [← hb0e] at o0
  have hR : RCc X0 (some ⟨b0, 0, none⟩) 2 [La, Lb] := fun _ => ⟨_, rfl, fun i J hJ => by
    rcases i with _ | _ | i
    · simp only [List.getElem?_cons_zero, Option.some.injEq] at hJ
      subst hJ
      rw [← hna]
      exact ⟨Pa, ca, by rw [add0]; exact o0.cell (i := 0) rfl, ha.keep (Keeps.of_below hb0), hca⟩
    · simp only [List.getElem?_cons_succ, List.getElem?_cons_zero, Option.some.injEq] at hJ
      subst hJ
      rw [← hnb]
      exact ⟨Pb, cb, by rw [add0]; exact o0.cell (i := 1) rfl, hb.keep (Keeps.of_below hb0), hcb⟩
    · simp at hJ⟩
  have HFIT := Lib.hid (hfit_any (some ⟨b0, 0, none⟩) 2 2 me [La, Lb] X0 rfl (by omega) hR hk.keys hk.1 hk.even hme hk.2.2)
  have HON := Lib.hid (fun (X : World) (hx : Below X0.heap.size X0 X) => hone_any (some ⟨b0, 0, none⟩) 2 2 me [La, Lb] X X (Below.refl _ _) rfl (by omega) (hR.keep (Keeps.of_below hx)) hk.keys hk.1 hk.even hme (Nat.le_trans hk.2.2 (by omega)))
  have HLE := Lib.hid (And.intro (hk.lens hme) hk.glen)
  have hfl : grpR [La, Lb].flatten = grpR (La ++ Lb) := by simp
  obtain ⟨G, hG⟩ : ∃ G, G = grpR (La ++ Lb) := ⟨_, rfl⟩
  rw [hfl, ← hG] at HLE HON
  rw [← hG]
  have HB0 := Lib.hid hb0
  have HX0 := Lib.hid hX0
  have HE0 := Lib.hid hb0e
  clear hR hk ha hb hna hnb hca hcb hX0 o0 hb0e hb0 hfl hG
  go_enter Try.func23, Try.ntmps23
  go_wp2_with fail
  rw [← HX0.out, ← HE0.out]
  refine HFIT.out.mono ?_
  rintro e w1 ⟨rfl, hb1⟩
  have HB1 := Lib.hid hb1
  clear hb1
  go_wp2_with fail
  refine (bykeys_any w1).mono ?_
  rintro e w2 ⟨rfl, hb2⟩
  have HB2 := Lib.hid (HB1.out.trans (hb2.mono HB1.out.size))
  clear hb2
  go_wp2_with fail
  refine (HON.out w2 HB2.out).mono ?_
  rintro e w3 ⟨⟨A, c3, rfl, hrow, -⟩, hb3⟩
  have HB3 := Lib.hid (HB0.out.trans ((HB2.out.trans (hb3.mono HB2.out.size)).mono HB0.out.size))
  have HCL := Lib.hid (mcloned_any A c3 G.length G w3 (hrow w3 fun _ _ _ => rfl) rfl (by have := HLE.out.2; omega) HLE.out.1)
  clear hrow hb3
  obtain ⟨gn, hgn⟩ : ∃ z, z = G.length := ⟨_, rfl⟩
  rw [← hgn] at HCL ⊢
  clear hgn
  go_wp2_with fail
  refine HCL.out.mono ?_
  rintro e w4 ⟨⟨v, us, rfl, hg⟩, hb4⟩
  have HF := Lib.hid (show (∃ v' us, Ending.returned v = .returned v' ∧ GRs w.heap.size w4 v' us G) ∧ Below w.heap.size w w4 from ⟨⟨v, us, rfl, hg.mono HB3.out.size⟩, HB3.out.trans (hb4.mono HB3.out.size)⟩)
  clear hg hb4
  go_wp2_with fail
  go_ret
  exact HF.out
end Go.Proofs.Ytmolfcccfekcpaa
/- Law 6's known. -/
namespace Go.Proofs.Ytmolfcccfekcpaa
open Go.RowKit Go.Shelf Go.Sort
attribute [local go_sem] Oper.semAt_some
def mA : Cel := ⟨[2], 1, [], [], []⟩
def mB : Cel := ⟨[1], 4, [], [], []⟩
theorem grp_mab : grpR [mA, mB] = [mB, mA] := by simp [grpR, putC, cmpL, cmpI, mA, mB]
theorem grp_maa : grpR [mA, mA] = [⟨[2], 2, [], [], []⟩] := by simp [grpR, putC, cmpL, cmpI, mA, join2, addL, minL, maxL, wrap64]
theorem one_row {W : World} {g k : Nat} {n x : Int} {c : Nat} (h : Own 44 W g [.slice (some ⟨k, 0, none⟩) 1 1, .int .i64 n, .slice none 0 0, .slice none 0 0, .slice none 0 0]) (hr : RI W (.slice (some ⟨k, 0, none⟩) 1 1) [x]) (hn : inK .i64 n) : RowC W (some ⟨g, 0, none⟩) c [⟨[x], n, [], [], []⟩] := fun _ => ⟨_, rfl, fun j y hj => by
  rcases j with _ | j
  · simp only [List.getElem?_cons_zero, Option.some.injEq] at hj
    subst hj
    rw [show (0 : Nat) * 5 = 0 from rfl, add0]
    exact ⟨_, _, _, _, h.cell (i := 0) rfl, h.cell (i := 1) rfl, h.cell (i := 2) rfl, h.cell (i := 3) rfl, h.cell (i := 4) rfl, ⟨hr, nil_ri _, nil_ri _, nil_ri _⟩, hn⟩
  · simp at hj⟩
theorem pass22 : passN 2 2 = 1 := by rw [passN_more (by omega) (by omega), passN_one (by omega)]
theorem mpk_ab : MPk 0 [[mA], [mB]] := ⟨fun J hJ => by
  simp only [List.mem_cons, List.not_mem_nil, or_false] at hJ
  rcases hJ with rfl | rfl <;> exact List.pairwise_singleton _ _, fun x hx => by
  simp only [List.flatten_cons, List.flatten_nil, List.append_nil, List.cons_append, List.nil_append, List.mem_cons, List.not_mem_nil, or_false] at hx
  rcases hx with rfl | rfl <;> exact ⟨⟨rfl, rfl, rfl⟩, by simp [mA, mB]⟩, by simp⟩
theorem mpk_aa : MPk 0 [[mA], [mA]] := ⟨fun J hJ => by
  simp only [List.mem_cons, List.not_mem_nil, or_false] at hJ
  rcases hJ with rfl | rfl <;> exact List.pairwise_singleton _ _, fun x hx => by
  simp only [List.flatten_cons, List.flatten_nil, List.append_nil, List.cons_append, List.nil_append, List.mem_cons, List.not_mem_nil, or_false] at hx
  rcases hx with rfl | rfl <;> exact ⟨⟨rfl, rfl, rfl⟩, by simp [mA]⟩, by simp⟩
theorem mpk_nil : MPk 0 [] := ⟨fun J hJ => (by cases hJ), fun x hx => (by cases hx), by simp⟩
set_option maxRecDepth 100000 in
set_option maxHeartbeats 4000000 in
theorem known6_any (w : World) :
    Calls Try.prog 13 #[] w fun e w' => e = .returned (.bool true) ∧ Below w.heap.size w w' := by
  go_enter Try.func13, Try.ntmps13
  go_wp2_with fail
  obtain ⟨A, hA⟩ : ∃ X, X = w.alloc (.cells #[.int .i64 2] 3) := ⟨_, rfl⟩
  obtain ⟨B, hB⟩ : ∃ X, X = A.alloc (.cells #[.int .i64 1] 3) := ⟨_, rfl⟩
  obtain ⟨C, hC⟩ : ∃ X, X = B.alloc (.cells #[.slice (some ⟨w.heap.size, 0, none⟩) 1 1, .int .i64 1, .slice none 0 0, .slice none 0 0, .slice none 0 0] 44) := ⟨_, rfl⟩
  obtain ⟨D, hD⟩ : ∃ X, X = C.alloc (.cells #[.slice (some ⟨w.heap.size + 1, 0, none⟩) 1 1, .int .i64 4, .slice none 0 0, .slice none 0 0, .slice none 0 0] 44) := ⟨_, rfl⟩
  obtain ⟨E, hE⟩ : ∃ X, X = D.alloc (.cells #[.slice (some ⟨w.heap.size, 0, none⟩) 1 1, .int .i64 1, .slice none 0 0, .slice none 0 0, .slice none 0 0] 44) := ⟨_, rfl⟩
  obtain ⟨F, hF⟩ : ∃ X, X = E.alloc (.cells #[.slice (some ⟨w.heap.size + 1, 0, none⟩) 1 1, .int .i64 4, .slice none 0 0, .slice none 0 0, .slice none 0 0] 44) := ⟨_, rfl⟩
  obtain ⟨G, hG⟩ : ∃ X, X = F.alloc (.cells #[.slice (some ⟨w.heap.size + 1 + 1 + 1 + 1, 0, none⟩) 1 1, .slice (some ⟨w.heap.size + 1 + 1 + 1 + 1 + 1, 0, none⟩) 1 1] 31) := ⟨_, rfl⟩
  rw [← hA, ← hB, ← hC, ← hD, ← hE, ← hF, ← hG]
  have sA : A.heap.size = w.heap.size + 1 := by rw [hA]; simp
  have bA : Below w.heap.size w A := by rw [hA]; exact (Below.refl _ _).alloc (Nat.le_refl _) _
  have sB : B.heap.size = w.heap.size + 1 + 1 := by rw [hB]; simp [sA]
  have bB : Below A.heap.size A B := by rw [hB]; exact (Below.refl _ _).alloc (Nat.le_refl _) _
  have sC : C.heap.size = w.heap.size + 1 + 1 + 1 := by rw [hC]; simp [sB]
  have bC : Below B.heap.size B C := by rw [hC]; exact (Below.refl _ _).alloc (Nat.le_refl _) _
  have sD : D.heap.size = w.heap.size + 1 + 1 + 1 + 1 := by rw [hD]; simp [sC]
  have bD : Below C.heap.size C D := by rw [hD]; exact (Below.refl _ _).alloc (Nat.le_refl _) _
  have sE : E.heap.size = w.heap.size + 1 + 1 + 1 + 1 + 1 := by rw [hE]; simp [sD]
  have bE : Below D.heap.size D E := by rw [hE]; exact (Below.refl _ _).alloc (Nat.le_refl _) _
  have sF : F.heap.size = w.heap.size + 1 + 1 + 1 + 1 + 1 + 1 := by rw [hF]; simp [sE]
  have bF : Below E.heap.size E F := by rw [hF]; exact (Below.refl _ _).alloc (Nat.le_refl _) _
  have sG : G.heap.size = w.heap.size + 1 + 1 + 1 + 1 + 1 + 1 + 1 := by rw [hG]; simp [sF]
  have bG : Below F.heap.size F G := by rw [hG]; exact (Below.refl _ _).alloc (Nat.le_refl _) _
  have oA0 : Own 3 A (w.heap.size) [.int .i64 2] := by rw [hA]; exact heap_alloc_new w _
  have oB0 : Own 3 B (w.heap.size + 1) [.int .i64 1] := by rw [← sA, hB]; exact heap_alloc_new A _
  have oC0 : Own 44 C (w.heap.size + 1 + 1) [.slice (some ⟨w.heap.size, 0, none⟩) 1 1, .int .i64 1, .slice none 0 0, .slice none 0 0, .slice none 0 0] := by rw [← sB, hC]; exact heap_alloc_new B _
  have oD0 : Own 44 D (w.heap.size + 1 + 1 + 1) [.slice (some ⟨w.heap.size + 1, 0, none⟩) 1 1, .int .i64 4, .slice none 0 0, .slice none 0 0, .slice none 0 0] := by rw [← sC, hD]; exact heap_alloc_new C _
  have oE0 : Own 44 E (w.heap.size + 1 + 1 + 1 + 1) [.slice (some ⟨w.heap.size, 0, none⟩) 1 1, .int .i64 1, .slice none 0 0, .slice none 0 0, .slice none 0 0] := by rw [← sD, hE]; exact heap_alloc_new D _
  have oF0 : Own 44 F (w.heap.size + 1 + 1 + 1 + 1 + 1) [.slice (some ⟨w.heap.size + 1, 0, none⟩) 1 1, .int .i64 4, .slice none 0 0, .slice none 0 0, .slice none 0 0] := by rw [← sE, hF]; exact heap_alloc_new E _
  have oG0 : Own 31 G (w.heap.size + 1 + 1 + 1 + 1 + 1 + 1) [.slice (some ⟨w.heap.size + 1 + 1 + 1 + 1, 0, none⟩) 1 1, .slice (some ⟨w.heap.size + 1 + 1 + 1 + 1 + 1, 0, none⟩) 1 1] := by rw [← sF, hG]; exact heap_alloc_new F _
  have oA := ((((((oA0.below bB (by omega)).below bC (by omega)).below bD (by omega)).below bE (by omega)).below bF (by omega)).below bG (by omega))
  have oB := (((((oB0.below bC (by omega)).below bD (by omega)).below bE (by omega)).below bF (by omega)).below bG (by omega))
  have oC := ((((oC0.below bD (by omega)).below bE (by omega)).below bF (by omega)).below bG (by omega))
  have oD := (((oD0.below bE (by omega)).below bF (by omega)).below bG (by omega))
  have oE := ((oE0.below bF (by omega)).below bG (by omega))
  have oF := (oF0.below bG (by omega))
  have oG := oG0
  have bG0 : Below w.heap.size w G := ((((((bA.trans (bB.mono (by omega))).trans (bC.mono (by omega))).trans (bD.mono (by omega))).trans (bE.mono (by omega))).trans (bF.mono (by omega))).trans (bG.mono (by omega)))
  obtain ⟨z0, hz0⟩ : ∃ k, k = w.heap.size := ⟨_, rfl⟩
  obtain ⟨z1, hz1⟩ : ∃ k, k = w.heap.size + 1 := ⟨_, rfl⟩
  obtain ⟨z2, hz2⟩ : ∃ k, k = w.heap.size + 1 + 1 := ⟨_, rfl⟩
  obtain ⟨z3, hz3⟩ : ∃ k, k = w.heap.size + 1 + 1 + 1 := ⟨_, rfl⟩
  obtain ⟨z4, hz4⟩ : ∃ k, k = w.heap.size + 1 + 1 + 1 + 1 := ⟨_, rfl⟩
  obtain ⟨z5, hz5⟩ : ∃ k, k = w.heap.size + 1 + 1 + 1 + 1 + 1 := ⟨_, rfl⟩
  obtain ⟨z6, hz6⟩ : ∃ k, k = w.heap.size + 1 + 1 + 1 + 1 + 1 + 1 := ⟨_, rfl⟩
  rw [← hz6, ← hz5, ← hz4] at oG
  rw [← hz5, ← hz1] at oF
  rw [← hz4, ← hz0] at oE
  rw [← hz2, ← hz0] at oC
  rw [← hz1] at oB
  rw [← hz0] at oA
  rw [← hz6, ← hz5, ← hz4, ← hz3, ← hz2, ← hz1, ← hz0]
  have r0 : RI G (.slice (some ⟨z0, 0, none⟩) 1 1) [2] := row_ri _ z0 [2] 3 (by simp [inK]) oA (by decide)
  have r1 : RI G (.slice (some ⟨z1, 0, none⟩) 1 1) [1] := row_ri _ z1 [1] 3 (by simp [inK]) oB (by decide)
  have hRC : RCc G (some ⟨z6, 0, none⟩) 2 [[mA], [mB]] := fun _ => ⟨_, rfl, fun i J hJ => by
    rcases i with _ | _ | i
    · simp only [List.getElem?_cons_zero, Option.some.injEq] at hJ
      subst hJ
      exact ⟨_, 1, by rw [add0]; exact oG.cell (i := 0) rfl, one_row oE r0 (by simp [inK]), by simp⟩
    · simp only [List.getElem?_cons_succ, List.getElem?_cons_zero, Option.some.injEq] at hJ
      subst hJ
      exact ⟨_, 1, by rw [add0]; exact oG.cell (i := 1) rfl, one_row oF r1 (by simp [inK]), by simp⟩
    · simp at hJ⟩
  have hM := mMerge_any (some ⟨z6, 0, none⟩) 2 2 0 2 [[mA], [mB]] G rfl (by omega) (by omega) (by omega) (by omega) hRC mpk_ab (by omega)
  rw [pass22, show [[mA], [mB]].flatten = [mA, mB] from rfl, grp_mab] at hM
  have HM := Lib.hid hM
  have OC := Lib.hid oC
  have R0 := Lib.hid r0
  have BG := Lib.hid bG0
  clear hM oC r0 r1 bG0 hRC oA oB oD oE oF oG oA0 oB0 oC0 oD0 oE0 oF0 oG0 sA sB sC sD sE sF sG bA bB bC bD bE bF bG hA hB hC hD hE hF hG hz0 hz1 hz2 hz3 hz4 hz5 hz6
  refine HM.out.mono ?_
  rintro e X ⟨⟨v, us, rfl, hg⟩, hb⟩
  obtain ⟨P, c, rfl, -, hul, hC, -⟩ := hg.form
  have hrow := hg.rowC.1
  have hlen := hg.rowC.2
  have HBX := Lib.hid (BG.out.trans (hb.mono BG.out.size))
  have OCX := Lib.hid (OC.out.below hb OC.out.lt)
  have R0X := Lib.hid (R0.out.keep (Keeps.of_below hb))
  have HROW := Lib.hid hrow
  have HN := Lib.hid (mMerge_any none 0 0 0 2 [] X rfl (by omega) (by omega) (by omega) (by omega) (fun h => absurd h (by omega)) mpk_nil (by omega))
  rw [show passN 2 0 = 0 from passN_one (by omega)] at HN
  rw [show us.length = 2 from hlen] at *
  clear hg hC hb hrow hlen hul HM OC R0 BG
  go_wp2_with fail
  refine HN.out.mono ?_
  rintro e X2 ⟨⟨v2, us2, rfl, hg2⟩, hb2⟩
  obtain ⟨P2, c2, rfl, -⟩ := hg2.form
  have HB2 := Lib.hid (HBX.out.trans (hb2.mono HBX.out.size))
  obtain ⟨ad, rfl, hcs⟩ := HROW.out (by omega)
  obtain ⟨vk, vs, vn, vm, a0, a1, -⟩ := (hcs 0 mB rfl).keep (Keeps.of_below hb2)
  rw [show ad.add (0 * 5) = ad from by simp [Addr.add]] at a1
  have oC2 := OCX.out.below hb2 OCX.out.lt
  obtain ⟨q0, q1, q2, q3, q4⟩ := Own.bx oC2
  have r02 := R0X.out.keep (Keeps.of_below hb2)
  obtain ⟨X3, hX3⟩ : ∃ X3, X3 = (X2.alloc (.cells #[.slice (some ⟨z0, 0, none⟩) 1 1, .int .i64 1, .slice none 0 0, .slice none 0 0, .slice none 0 0] 44)).alloc (.cells #[.slice (some ⟨z0, 0, none⟩) 1 1, .int .i64 1, .slice none 0 0, .slice none 0 0, .slice none 0 0] 44) := ⟨_, rfl⟩
  have kA := Keeps.of_below ((Below.refl X2.heap.size X2).alloc (Nat.le_refl _) (.cells #[.slice (some ⟨z0, 0, none⟩) 1 1, .int .i64 1, .slice none 0 0, .slice none 0 0, .slice none 0 0] 44))
  have p0 := kA _ _ q0
  have p1 := kA _ _ q1
  have p2 := kA _ _ q2
  have p3 := kA _ _ q3
  have p4 := kA _ _ q4
  have s1 : (X2.alloc (.cells #[.slice (some ⟨z0, 0, none⟩) 1 1, .int .i64 1, .slice none 0 0, .slice none 0 0, .slice none 0 0] 44)).heap.size = X2.heap.size + 1 := by simp
  have t1 : Own 44 X3 X2.heap.size [.slice (some ⟨z0, 0, none⟩) 1 1, .int .i64 1, .slice none 0 0, .slice none 0 0, .slice none 0 0] := by rw [hX3]; exact (Below.heap_alloc _ _ _ (by simp)).trans (heap_alloc_new X2 _)
  have t2 : Own 44 X3 (X2.heap.size + 1) [.slice (some ⟨z0, 0, none⟩) 1 1, .int .i64 1, .slice none 0 0, .slice none 0 0, .slice none 0 0] := by rw [hX3, ← s1]; exact heap_alloc_new _ _
  have b3 : Below X2.heap.size X2 X3 := by rw [hX3]; exact ((Below.refl _ _).alloc (Nat.le_refl _) _).alloc (by simp) _
  have r03 := r02.keep (Keeps.of_below b3)
  obtain ⟨y1, hy1⟩ : ∃ k, k = X2.heap.size := ⟨_, rfl⟩
  obtain ⟨y2, hy2⟩ : ∃ k, k = X2.heap.size + 1 := ⟨_, rfl⟩
  rw [← hy1] at t1
  rw [← hy2] at t2
  have hT := mTwo_any (some ⟨y1, 0, none⟩) (some ⟨y2, 0, none⟩) 1 1 1 1 0 [mA] [mA] X3 (one_row t1 r03 (by simp [inK])) (one_row t2 r03 (by simp [inK])) rfl rfl (by omega) (by omega) mpk_aa (by omega)
  rw [show [mA] ++ [mA] = [mA, mA] from rfl, grp_maa] at hT
  have HT := Lib.hid hT
  have HB3 := Lib.hid (HB2.out.trans (b3.mono HB2.out.size))
  have HX3 := Lib.hid hX3
  have HY1 := Lib.hid hy1
  have HY2 := Lib.hid hy2
  have a1' : X2.cell? ⟨ad.block, ad.off + 1, none⟩ = some (.int .i64 4) := a1
  clear hg2 hb2 hcs a0 a1 oC2 r02 hX3 s1 t1 t2 b3 r03 hy1 hy2 hT HN OCX R0X HROW HBX
  go_wp2_with fail
  rw [← HX3.out, ← HY1.out]
  rw [show y1 + 1 = y2 by rw [HY1.out, HY2.out]]
  refine HT.out.mono ?_
  rintro e X5 ⟨⟨v5, us5, rfl, hg5⟩, hb5⟩
  have HB5 := Lib.hid (HB3.out.trans (hb5.mono HB3.out.size))
  obtain ⟨P5, c5, rfl, -⟩ := hg5.form
  have hl5 := hg5.rowC.2
  rw [show us5.length = 1 from hl5]
  clear hg5 hb5 hl5 q0 q1 q2 q3 q4 p0 p1 p2 p3 p4 kA a1'
  go_wp2
  go_ret
  exact ⟨rfl, HB5.out⟩
end Go.Proofs.Ytmolfcccfekcpaa
/- The laws' within. -/
namespace Go.Proofs.Ytmolfcccfekcpaa
open Go.RowKit Go.Shelf
attribute [local go_sem] Oper.semAt_some
set_option maxHeartbeats 400000 in
theorem lwithin6 (a n : Int) (w : World) (ha : inK .i64 a) (hn : 1 ≤ n) (hn2 : n ≤ 4611686018427387904) :
    Calls Try.prog 18 #[.int .i64 a, .int .i64 n] w fun e w' => e = .returned (.int .i64 (a % n)) ∧ w = w' := by
  obtain ⟨ha1, ha2⟩ := ha
  by_cases h : 0 ≤ a
  · have h1 := Int.emod_nonneg a (show n ≠ 0 by omega)
    go_enter Try.func18, Try.ntmps18
    go_wp2
    go_ret
    exact ⟨rfl, rfl⟩
  · have h1 := Int.emod_nonneg a (show n ≠ 0 by omega)
    have h2 := Int.emod_lt_of_pos a (show 0 < n by omega)
    have h3 := Int.tmod_eq_emod (a := a) (b := n)
    have h4 : a.tmod n = a % n ∨ a.tmod n = a % n - n := by
      rw [h3]
      split
      · simp
      · right; omega
    by_cases h5 : a.tmod n < 0
    · have e : a.tmod n + n = a % n := by omega
      have h6 : -n ≤ a.tmod n := by omega
      have E := Lib.hid e
      clear e h3 h4 h1 h2
      go_enter Try.func18, Try.ntmps18
      go_wp2
      go_ret
      exact ⟨ret_int E.out, rfl⟩
    · have e : a.tmod n = a % n := by omega
      have E := Lib.hid e
      clear e h3 h4 h1 h2
      go_enter Try.func18, Try.ntmps18
      go_wp2
      go_ret
      exact ⟨ret_int E.out, rfl⟩

end Go.Proofs.Ytmolfcccfekcpaa
/- The laws' Make. -/
namespace Go.Proofs.Ytmolfcccfekcpaa
open Go.RowKit Go.Shelf
set_option maxRecDepth 100000 in
set_option maxHeartbeats 4000000 in
theorem make_any (D : Option Addr) (m d C : Nat) (set : Int) (l : List Fact) (w : World) (hR : RowsX w C (.slice D m d) l) (hm : l.length = m) (hm40 : m ≤ 40) (hs : ∀ r ∈ l, (∀ x ∈ r.key, inK .i64 x) ∧ ∀ x ∈ r.m, inK .i64 x) (hl : ∀ r ∈ l, r.key.length ≤ 4 ∧ r.m.length ≤ 1000000) (s1 : 0 ≤ set) (s2 : set ≤ 15) :
    Calls Try.prog 16 #[.slice D m d, .int .i64 set] w fun e w' => ∃ v us, e = .returned v ∧ GRs w.heap.size w' v us (l.map (ofC set)) ∧ Below w.heap.size w w' := by
  have HR := Lib.hid hR
  have HM := Lib.hid hm
  have HS := Lib.hid hs
  have HL := Lib.hid hl
  clear hR hm hs hl
  go_enter Try.func16, Try.ntmps16
  go_wp2_with fail
  go_loopw [5, 6] (fun s5 s6 wr => ∃ (i : Nat) (us : List V5), s6 = .int .i64 i ∧ i ≤ m ∧ GRs w.heap.size wr s5 us ((l.take i).map (ofC set)) ∧ Below w.heap.size w wr) (fun _ s6 _ => m - (intOf s6).toNat)
  case atStart => exact ⟨0, [], rfl, Nat.zero_le _, GRs.nil _ _, Below.refl _ _⟩
  case round =>
    obtain ⟨i, us, rfl, hi, hg, hb⟩ := hrel
    rename World => wr
    by_cases hlt : i < m
    · have d1 : decide ((i : Int) < (m : Int)) = true := decide_eq_true (by omega)
      obtain ⟨r, hr⟩ : ∃ r, l[i]? = some r := ⟨_, List.getElem?_eq_getElem (by rw [HM.out]; exact hlt)⟩
      have hrm := List.mem_of_getElem? hr
      obtain ⟨l1, l2⟩ := HL.out r hrm
      obtain ⟨ad, kv, mv, rfl, c0, c1, r1, r2⟩ := (HR.out.below hb (Nat.le_refl _)).at_ HS.out HM.out hr
      have hof := rOf_any kv mv r.key r.m set wr r1 r2 l1 l2 s1 s2
      have hstep : ∀ X1 k s n mm, CO wr.heap.size X1 k s n mm ⟨pk r.key set r.key.length, 1, r.m, r.m, r.m⟩ → Below wr.heap.size wr X1 → ∃ v' X3, (Builtin.append_ #[31, 31] 31 #[u5, .slice (some ⟨X1.heap.size, 0, none⟩) 1 1]).run Try.prog (X1.alloc (.cells #[k, .int .i64 1, s, n, mm] 44)) = .ok v' X3 ∧
          (∃ us', GRs w.heap.size X3 v' us' ((l.take (i + 1)).map (ofC set))) ∧ Below w.heap.size w X3 := fun X1 k s n mm hc hbx => by
        have hg1 := hg.below hbx
        have hu : OwnC w.heap.size X1 ⟨k, .int .i64 1, s, n, mm⟩ (ofC set r) := ⟨rfl, hc.mono hb.size, ⟨by show (-9223372036854775808 : Int) ≤ 1; omega, by show (1 : Int) ≤ 9223372036854775807; omega⟩⟩
        have hul := hg.len
        rw [List.length_map, List.length_take] at hul
        obtain ⟨v', X3, hrun, hgr, hgb, -⟩ := append_one hg1 hu (by omega) (Nat.le_trans hb.size hbx.size)
        have hlt2 : (l.take (i + 1)).map (ofC set) = (l.take i).map (ofC set) ++ [ofC set r] := by rw [List.take_add_one, hr, List.map_append]; rfl
        refine ⟨v', X3, hrun, ⟨_, by rw [hlt2]; exact hgr⟩, ?_⟩
        have h1 : Below w.heap.size w (X1.alloc (.cells #[k, .int .i64 1, s, n, mm] 44)) := (hb.trans (hbx.mono hb.size)).alloc (Nat.le_trans hb.size hbx.size) _
        exact h1.grown hgb h1.size fun j e => (hg1.1.lt j e).1
      have Hof := Lib.hid hof
      have Hst := Lib.hid hstep
      have i0 : (0 : Int) ≤ (i : Int) := by omega
      have i1 : (i : Int) < (m : Int) := by omega
      have c1' : wr.cell? ⟨(ad.add (i * 2)).block, (ad.add (i * 2)).off + 1, none⟩ = some mv := by
        have e : ad.add (i * 2 + 1) = ⟨(ad.add (i * 2)).block, (ad.add (i * 2)).off + 1, none⟩ := by rw [← add_of_add, Addr.add, if_neg (by omega)]
        rw [← e]; exact c1
      clear hof hstep hg hb hr hrm r1 r2 c1
      go_wp2_with fail
      refine Hof.out.mono ?_
      rintro e X1 ⟨k, s, n, mm, rfl, hc, hbx⟩
      obtain ⟨v', X3, hrun, hfin, hb3⟩ := Hst.out X1 k s n mm hc hbx
      obtain ⟨Pk, ck, f1, -⟩ := hc.key.form
      obtain ⟨Ps, cs, f2, -⟩ := hc.sum.form
      obtain ⟨Pn, cn, f3, -⟩ := hc.mn.form
      obtain ⟨Pm, cm, f4, -⟩ := hc.mx.form
      subst f1 f2 f3 f4
      have Hrun := Lib.hid hrun
      have Hfin := Lib.hid hfin
      have Hb3 := Lib.hid hb3
      clear hrun hfin hb3 hc hbx Hst Hof
      go_wp2_with (at_builtin; have _t := Hrun; refine wpList_append_eq rfl (.tmp 13) (.tmp 20) 31 rfl _ _ _ _ rfl rfl Hrun.out ?_; clear _t Hrun)
      go_roundw
      case rel =>
        obtain ⟨us', hg'⟩ := Hfin.out
        exact ⟨i + 1, us', by go_num, by omega, hg', Hb3.out⟩
      case measure => simp [intOf]; omega
    · obtain rfl : i = m := by omega
      have d1 : decide ((i : Int) < (i : Int)) = false := by simp
      rw [List.take_of_length_le (by rw [HM.out]; exact Nat.le_refl _)] at hg
      have Hg := Lib.hid hg
      have Hb := Lib.hid hb
      clear hg hb
      go_wp2
      go_ret
      exact ⟨_, _, rfl, Hg.out, Hb.out⟩
end Go.Proofs.Ytmolfcccfekcpaa
/- Package runs, as mathematics: what all cells have, all of the runs' have. -/
namespace Go.Proofs.Ytmolfcccfekcpaa
open Go.RowKit
theorem putC_p {p : Cel → Prop} (hj : ∀ y c, p y → p c → p (join2 y c)) {H : List Cel} {c : Cel} (h : ∀ y ∈ H, p y) (hc : p c) : ∀ y ∈ putC H c, p y := by
  induction H with
  | nil => intro y hy; simp only [putC, List.mem_singleton] at hy; rw [hy]; exact hc
  | cons x l ih =>
    simp only [putC]
    split
    · intro y hy
      rcases List.mem_cons.1 hy with rfl | hy
      · exact h _ (by simp)
      · exact ih (fun z hz => h z (by simp [hz])) y hy
    · split
      · intro y hy
        rcases List.mem_cons.1 hy with rfl | hy
        · exact hj _ _ (h x (by simp)) hc
        · exact h y (by simp [hy])
      · intro y hy
        rcases List.mem_cons.1 hy with rfl | hy
        · exact hc
        · exact h y hy
theorem runs_p {p : Cel → Prop} (hj : ∀ y c, p y → p c → p (join2 y c)) {m : Nat} : ∀ (l H : List Cel), (∀ x ∈ l, p x) → (∀ x ∈ H, p x) → ∀ x ∈ (runsP m H l).flatten, p x
  | [], H, _, hH => by
    unfold runsP
    split
    · intro x hx; simp at hx
    · intro x hx; exact hH x (by simpa using hx)
  | c :: l, H, hl, hH => by
    have hc := hl c (by simp)
    have hl' : ∀ x ∈ l, p x := fun x hx => hl x (by simp [hx])
    unfold runsP
    split
    · exact runs_p hj l _ hl' (putC_p hj hH hc)
    · split
      · intro x hx
        rw [List.flatten_cons] at hx
        rcases List.mem_append.1 hx with hx | hx
        · exact hH x hx
        · exact runs_p hj l [c] hl' (fun y hy => by rw [List.mem_singleton] at hy; rw [hy]; exact hc) x hx
      · exact runs_p hj l _ hl' (putC_p hj hH hc)
theorem runs_ok {d mm m : Nat} (l H : List Cel) (hl : OkL d mm l) (hH : OkL d mm H) : OkL d mm (runsP m H l).flatten :=
  runs_p (p := fun x => x.key.length = d ∧ okK x.key = true ∧ EvenC mm x) (fun _ _ hy hc => ⟨hy.1, hy.2.1, join2_even hy.2.2 hc.2.2⟩) l H hl hH
end Go.Proofs.Ytmolfcccfekcpaa
/- The reference's Runs over a row that reads as facts' cells do. -/
namespace Go.Proofs.Ytmolfcccfekcpaa
open Go.RowKit Go.Shelf
theorem rruns_row (P : Option Addr) (c N m d me : Nat) (L : List Cel) (w : World) (hr : RowC w P N L) (hN : N = L.length) (hN1 : N ≤ 60) (hg : OkL d me L) (hd : d ≤ 1000) (hme : me ≤ 2) :
    Calls Try.prog 15 #[.slice P N c, .int .i64 m] w fun e w' => ∃ P' c', e = .returned (.slice P' (runsP m [] L).length c') ∧ RunsC w' P' (runsP m [] L).length (runsP m [] L) ∧ Below w.heap.size w w' :=
  (rRuns_any P c N m me L w hr hN (by omega) (fun x hx => ⟨(hg x hx).2.2, by have := (hg x hx).1; omega⟩) (by omega)).mono fun e w' h => by
    obtain ⟨v, gs, rfl, hG, hb⟩ := h
    obtain ⟨P', c', rfl, -, -, hR, -⟩ := hG.form
    exact ⟨P', c', rfl, hR, hb⟩
/-- Runs are few, and so are their cells. -/
theorem runs_small {d me m : Nat} (hm : 1 ≤ m) {L : List Cel} (hg : OkL d me L) (hd : d ≤ 1000) (hme : me ≤ 2) (hl : L.length ≤ 60) : (runsP m [] L).length ≤ 60 ∧ ∀ J ∈ runsP m [] L, FewC J ∧ J.length ≤ 1000000 := by
  have h2 := runs_len (m := m) L []
  rw [List.length_nil, Nat.zero_add] at h2
  have hok := runs_ok (m := m) L [] hg (fun y hy => absurd hy List.not_mem_nil)
  refine ⟨?_, fun J hJ => ⟨?_, ?_⟩⟩
  · have h1 := flat_ge (runsP m [] L) (fun J hJ => (runs_each hm L [] (by simp [RiseC]) (by simp) J hJ).2.1)
    omega
  · exact OkL.few (d := d) (mm := me) (fun x hx => hok x (List.mem_flatten.2 ⟨J, hJ, hx⟩)) hd (by omega)
  · have := List.Sublist.length_le (List.sublist_flatten_of_mem hJ)
    omega
end Go.Proofs.Ytmolfcccfekcpaa
/- The reference's runs of good cells, as merge takes them. -/
namespace Go.Proofs.Ytmolfcccfekcpaa
open Go.RowKit Go.Shelf
theorem RunsC.rcc {X : World} {P : Option Addr} {n : Nat} {Js : List (List Cel)} (h : RunsC X P n Js) : RCc X P n Js := fun hn => by
  obtain ⟨ad, e, hc⟩ := h hn
  refine ⟨ad, e, fun i J hJ => ?_⟩
  obtain ⟨Pi, ci, h1, h2, h3, -⟩ := hc i J hJ
  exact ⟨Pi, ci, h1, h2, h3⟩
theorem rruns6 (P : Option Addr) (c N m d me : Nat) (L : List Cel) (w : World) (hr : RowC w P N L) (hN : N = L.length) (hN1 : N ≤ 60) (hg : OkL d me L) (hd : d ≤ 1000) (hme : me ≤ 2) :
    Calls Try.prog 15 #[.slice P N c, .int .i64 m] w fun e w' => ∃ P' c', e = .returned (.slice P' (runsP m [] L).length c') ∧ RunsC w' P' (runsP m [] L).length (runsP m [] L) ∧ (runsP m [] L).length ≤ c' ∧ Below w.heap.size w w' :=
  (rRuns_any P c N m me L w hr hN (by omega) (fun x hx => ⟨(hg x hx).2.2, by have := (hg x hx).1; omega⟩) (by omega)).mono fun e w' h => by
    obtain ⟨v, gs, rfl, hG, hb⟩ := h
    obtain ⟨P', c', rfl, h1, -, hR, -⟩ := hG.form
    exact ⟨P', c', rfl, hR, h1, hb⟩
theorem MPk.of_ok {d me : Nat} {Js : List (List Cel)} (hr : ∀ J ∈ Js, RiseC J) (ho : OkL d me Js.flatten) (hd : d ≤ 1000000) (hl : Js.flatten.length ≤ 1000) : MPk me Js := ⟨hr, fun x hx => ⟨(ho x hx).2.2, by have := (ho x hx).1; omega⟩, hl⟩
theorem mpk_runs {k d me : Nat} {L : List Cel} (hk : 1 ≤ k) (ho : OkL d me L) (hd : d ≤ 1000000) (hl : L.length ≤ 1000) : MPk me (runsP k [] L) :=
  MPk.of_ok (d := d) (fun J hJ => (runs_each hk L [] (by simp [RiseC]) (by simp) J hJ).1) (runs_ok (m := k) L [] ho (fun y hy => absurd hy List.not_mem_nil)) hd (by
    have := runs_len (m := k) L []
    rw [List.length_nil] at this
    omega)
theorem mok_runs {k d me : Nat} {L : List Cel} (hk : 1 ≤ k) (ho : OkL d me L) (hd : d ≤ 1000) (hl : L.length ≤ 1000) : MOk me (runsP k [] L) :=
  ⟨fun J hJ => (runs_each hk L [] (by simp [RiseC]) (by simp) J hJ).1, fun x hx => by
    have h := runs_ok (m := k) L [] ho (fun y hy => absurd hy List.not_mem_nil) x hx
    exact ⟨h.2.2, by have := h.1; omega⟩, by
    have := runs_len (m := k) L []
    rw [List.length_nil] at this
    omega⟩
theorem runs_gr {k : Nat} {L : List Cel} : grpR (runsP k [] L).flatten = grpR L := runs_grp k L
end Go.Proofs.Ytmolfcccfekcpaa
