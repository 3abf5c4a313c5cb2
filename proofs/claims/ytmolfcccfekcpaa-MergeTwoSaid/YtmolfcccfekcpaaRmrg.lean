/- Package merge, as mathematics: what a pass keeps; a row of runs as it reads. -/
import Derived.IntWalk
import Derived.Test.YtmolfcccfekcpaaMeven
import Derived.Test.YtmolfcccfekcpaaAliP
namespace Go.Proofs.Ytmolfcccfekcpaa
open Go.RowKit
theorem passN_le {f : Nat} (hf : 2 ≤ f) : ∀ n, passN f n ≤ n := by
  intro n
  induction n using Nat.strongRecOn with
  | _ n ih =>
    rcases Nat.lt_or_ge 1 n with h | h
    · rw [passN_more h hf]
      have h1 := ceil_lt h hf
      have := ih _ h1
      omega
    · rw [passN_one h]; exact Nat.zero_le _
theorem putC_pM {p : Cel → Prop} (hj : ∀ y c, p y → p c → p (join2 y c)) {H : List Cel} {c : Cel} (h : ∀ y ∈ H, p y) (hc : p c) : ∀ y ∈ putC H c, p y := by
  induction H with
  | nil => intro y hy; simp only [putC, List.mem_singleton] at hy; rw [hy]; exact hc
  | cons x l ih =>
    simp only [putC]
    split
    · intro y hy
      rcases List.mem_cons.1 hy with rfl | hy
      · exact h _ (by simp)
      · exact ih (fun z hz => h z (by simp [hz])) y hy
    · split
      · intro y hy
        rcases List.mem_cons.1 hy with rfl | hy
        · exact hj _ _ (h x (by simp)) hc
        · exact h y (by simp [hy])
      · intro y hy
        rcases List.mem_cons.1 hy with rfl | hy
        · exact hc
        · exact h y hy
theorem grp_pM {p : Cel → Prop} (hj : ∀ y c, p y → p c → p (join2 y c)) : ∀ (l acc : List Cel), (∀ y ∈ l, p y) → (∀ y ∈ acc, p y) → ∀ y ∈ l.foldl putC acc, p y
  | [], _, _, h => h
  | c :: l, _, hl, h => grp_pM hj l _ (fun y hy => hl y (by simp [hy])) (putC_pM hj h (hl c (by simp)))
theorem parts_len : ∀ (Cs : List (List (List Cel))), (Cs.map fun c => grpR c.flatten).flatten.length ≤ Cs.flatten.flatten.length
  | [] => Nat.le_refl _
  | c :: Cs => by
    have h1 := parts_len Cs
    have h2 := grp_lt c.flatten []
    rw [show c.flatten.foldl putC [] = grpR c.flatten from rfl, List.length_nil, Nat.zero_add] at h2
    rw [List.map_cons, List.flatten_cons, List.length_append, List.flatten_cons, List.flatten_append, List.length_append]
    omega
theorem pass_flen {f : Nat} (hf : 1 ≤ f) (Js : List (List Cel)) : (passP f Js).flatten.length ≤ Js.flatten.length := by
  have := parts_len (chunksF f Js)
  rw [(chunks_all hf _ Js rfl).1] at this
  exact this
theorem pass_p {p : Cel → Prop} (hj : ∀ y c, p y → p c → p (join2 y c)) {f : Nat} (hf : 1 ≤ f) {Js : List (List Cel)} (h : ∀ x ∈ Js.flatten, p x) : ∀ x ∈ (passP f Js).flatten, p x := fun x hx => by
  obtain ⟨g, hg, hx⟩ := List.mem_flatten.1 hx
  obtain ⟨c, hc, rfl⟩ := List.mem_map.1 hg
  refine grp_pM hj c.flatten [] (fun y hy => h y ?_) (fun y hy => absurd hy List.not_mem_nil) x hx
  obtain ⟨J, hJ, hy⟩ := List.mem_flatten.1 hy
  rw [← (chunks_all hf _ Js rfl).1]
  exact List.mem_flatten.2 ⟨J, List.mem_flatten.2 ⟨c, hc, hJ⟩, hy⟩
theorem pass_nil (f : Nat) : passP f [] = [] := by unfold passP; rw [chunksF_nil]; rfl
theorem pass_step {f : Nat} (hf : 1 ≤ f) {Js : List (List Cel)} {i : Nat} (hi : i < Js.length) : passP f (Js.drop i) = grpR ((Js.drop i).take f).flatten :: passP f (Js.drop (i + f)) := by
  unfold passP
  rw [chunksF_cons hf (by intro h; have := List.drop_eq_nil_iff.1 h; omega), List.map_cons, List.drop_drop]
/-- The first of some runs, and those behind it, made one. -/
theorem one_eq {f : Nat} (hf : 1 ≤ f) {Js : List (List Cel)} {i k : Nat} {J0 : List Cel} (h0 : Js[i]? = some J0) (hr : ∀ J ∈ Js, RiseC J) (hk : k = min (i + f) Js.length) : ((Js.drop (i + 1)).take (k - (i + 1))).foldl twoP J0 = grpR ((Js.drop i).take f).flatten := by
  have hil := (List.getElem?_eq_some_iff.1 h0).1
  have e1 : Js.drop i = J0 :: Js.drop (i + 1) := by rw [List.drop_eq_getElem_cons hil, (List.getElem?_eq_some_iff.1 h0).2]
  rw [two_many _ J0 (hr J0 (List.mem_of_getElem? h0)) (fun J hJ => hr J (List.mem_of_mem_drop (List.mem_of_mem_take hJ))), e1]
  obtain ⟨f', rfl⟩ : ∃ f', f = f' + 1 := ⟨f - 1, by omega⟩
  rw [List.take_succ_cons, List.flatten_cons]
  have : (Js.drop (i + 1)).take (k - (i + 1)) = (Js.drop (i + 1)).take f' := by
    rcases Nat.le_total (i + (f' + 1)) Js.length with h | h
    · rw [hk, Nat.min_eq_left h, show i + (f' + 1) - (i + 1) = f' from by omega]
    · rw [hk, Nat.min_eq_right h, List.take_of_length_le (by rw [List.length_drop]; exact Nat.le_refl _), List.take_of_length_le (by rw [List.length_drop]; omega)]
  rw [this]
theorem fold_snoc {Js : List (List Cel)} {i k : Nat} {J0 K : List Cel} (hk : Js[k]? = some K) (hik : i + 1 ≤ k) : ((Js.drop (i + 1)).take (k + 1 - (i + 1))).foldl twoP J0 = twoP (((Js.drop (i + 1)).take (k - (i + 1))).foldl twoP J0) K := by
  rw [show k + 1 - (i + 1) = (k - (i + 1)) + 1 from by omega, List.take_add_one, List.getElem?_drop, show i + 1 + (k - (i + 1)) = k from by omega, hk, Option.toList_some, List.foldl_append]
  rfl
def RC (X : World) (P : Option Addr) (n : Nat) (Js : List (List Cel)) : Prop := 0 < n → ∃ ad, P = some ad ∧ ∀ (i : Nat) J, Js[i]? = some J → ∃ Pi ci, X.cell? (ad.add i) = some (.slice Pi J.length ci) ∧ RowC X Pi J.length J
theorem RC.keep {X Y : World} {P : Option Addr} {n : Nat} {Js : List (List Cel)} (h : RC X P n Js) (hk : Keeps X Y) : RC Y P n Js := fun hn => by
  obtain ⟨ad, e, hc⟩ := h hn
  refine ⟨ad, e, fun i J hJ => ?_⟩
  obtain ⟨Pi, ci, h1, h2⟩ := hc i J hJ
  exact ⟨Pi, ci, hk _ _ h1, h2.keep hk⟩
theorem RunsC.rc {X : World} {P : Option Addr} {n : Nat} {Js : List (List Cel)} (h : RunsC X P n Js) : RC X P n Js := fun hn => by
  obtain ⟨ad, e, hc⟩ := h hn
  refine ⟨ad, e, fun i J hJ => ?_⟩
  obtain ⟨Pi, ci, h1, h2, -⟩ := hc i J hJ
  exact ⟨Pi, ci, h1, h2⟩
end Go.Proofs.Ytmolfcccfekcpaa
/- The reference's Merge. -/
namespace Go.Proofs.Ytmolfcccfekcpaa
open Go.RowKit Go.Shelf
attribute [local go_sem] Oper.semAt_some
/-- Runs that may be merged. -/
structure MOk (me : Nat) (Js : List (List Cel)) : Prop where
  ri : ∀ J ∈ Js, RiseC J
  ev : ∀ x ∈ Js.flatten, EvenC me x ∧ x.key.length ≤ 1000
  fl : Js.flatten.length ≤ 1000
theorem MOk.pass {me f : Nat} {Js : List (List Cel)} (h : MOk me Js) (hf : 1 ≤ f) : MOk me (passP f Js) :=
  ⟨pass_rise f Js, pass_p (p := fun x => EvenC me x ∧ x.key.length ≤ 1000) (fun _ _ hy hc => ⟨join2_even hy.1 hc.1, hy.2⟩) hf h.ev, Nat.le_trans (pass_flen hf Js) h.fl⟩
theorem flatJ_len {α : Type} {Js : List (List α)} {J : List α} (h : J ∈ Js) : J.length ≤ Js.flatten.length := List.Sublist.length_le (List.sublist_flatten_of_mem h)
theorem addZ (ad : Addr) : ad.add 0 = ad := by simp [Addr.add]
theorem flat_sub {α : Type} {l r : List (List α)} (h : l.Sublist r) : l.flatten.Sublist r.flatten := by
  induction h with
  | slnil => exact List.Sublist.refl _
  | cons a _ ih =>
    rw [List.flatten_cons]
    exact ih.trans (List.sublist_append_right _ _)
  | cons_cons a _ ih =>
    rw [List.flatten_cons, List.flatten_cons]
    exact (List.Sublist.refl a).append ih
theorem fold_ok {me i q : Nat} {Ks : List (List Cel)} {J0 : List Cel} (h : MOk me Ks) (h0 : Ks[i]? = some J0) : (∀ x ∈ ((Ks.drop (i + 1)).take q).foldl twoP J0, EvenC me x ∧ x.key.length ≤ 1000) ∧ (((Ks.drop (i + 1)).take q).foldl twoP J0).length ≤ 1000 := by
  have hil := (List.getElem?_eq_some_iff.1 h0).1
  have e1 : Ks.drop i = J0 :: Ks.drop (i + 1) := by rw [List.drop_eq_getElem_cons hil, (List.getElem?_eq_some_iff.1 h0).2]
  have e2 : J0 ++ ((Ks.drop (i + 1)).take q).flatten = ((Ks.drop i).take (q + 1)).flatten := by rw [e1, List.take_succ_cons, List.flatten_cons]
  have hs : (J0 ++ ((Ks.drop (i + 1)).take q).flatten).Sublist Ks.flatten := by
    rw [e2]
    exact flat_sub ((List.take_sublist _ _).trans (List.drop_sublist _ _))
  rw [two_many _ J0 (h.ri J0 (List.mem_of_getElem? h0)) (fun J hJ => h.ri J (List.mem_of_mem_drop (List.mem_of_mem_take hJ)))]
  refine ⟨fun x hx => ?_, ?_⟩
  · exact grp_pM (p := fun x => EvenC me x ∧ x.key.length ≤ 1000) (fun _ _ hy hc => ⟨join2_even hy.1 hc.1, hy.2⟩) _ [] (fun y hy => h.ev y (hs.subset hy)) (fun y hy => absurd hy List.not_mem_nil) x hx
  · have h1 := grp_lt (J0 ++ ((Ks.drop (i + 1)).take q).flatten) []
    have h2 := hs.length_le
    have h3 := h.fl
    rw [List.length_nil, Nat.zero_add] at h1
    exact Nat.le_trans h1 (Nat.le_trans h2 h3)
set_option maxRecDepth 100000 in
set_option maxHeartbeats 8000000 in
theorem rMerge_any (P : Option Addr) (c N f me : Nat) (Js : List (List Cel)) (w : World) (hr : RC w P N Js) (hN : N = Js.length) (hN1 : N ≤ 1000) (hf : 2 ≤ f) (hf2 : f ≤ 1000) (hok : MOk me Js) (hme : me ≤ 1000) :
    Calls Try.prog 20 #[.slice P N c, .int .i64 f] w fun e w' => ∃ v us, e = .returned (.tuple #[v, .int .i64 (passN f N : Nat)]) ∧ GRs w.heap.size w' v us (grpR Js.flatten) ∧ Below w.heap.size w w' := by
  have HR := Lib.hid hr
  have HN := Lib.hid hN
  have HOK := Lib.hid hok
  clear hr hN hok
  have hpb := passN_le hf N
  go_enter Try.func20, Try.ntmps20
  go_wp2_with fail
  go_loopw [0, 6] (fun s0 s6 wr => ∃ (n c p : Nat) (A : Option Addr) (Ks : List (List Cel)), s0 = .slice A n c ∧ s6 = .int .i64 p ∧ RC wr A n Ks ∧ n = Ks.length ∧ n ≤ 1000 ∧ MOk me Ks ∧ grpR Ks.flatten = grpR Js.flatten ∧ p + passN f n = passN f N ∧ (n = 0 → N = 0) ∧ Below w.heap.size w wr) (fun s0 _ _ => lenOf s0)
  case atStart => exact ⟨N, c, 0, P, Js, rfl, rfl, HR.out, HN.out, hN1, HOK.out, rfl, by omega, fun h => h, Below.refl _ _⟩
  case round =>
    obtain ⟨n, c, p, A, Ks, rfl, rfl, hrc, hn, hn1, hok, hgr, hps, hz, hb⟩ := hrel
    rename World => wp
    have HRC := Lib.hid hrc
    have HKN := Lib.hid hn
    have HOK := Lib.hid hok
    have HGR := Lib.hid hgr
    have Hb := Lib.hid hb
    have HPS := Lib.hid (And.intro hps hpb)
    have HZ := Lib.hid hz
    have hp1000 : p ≤ 1000 := by omega
    clear hrc hn hok hgr hb HR hps hpb hz
    by_cases hlt : 1 < n
    · have d1 : decide ((1 : Int) < (n : Int)) = true := decide_eq_true (by omega)
      have d1n : decide (1 < n) = true := decide_eq_true hlt
      have HPS2 := Lib.hid (passN_more hlt hf)
      go_wp2_with fail
      go_loopw [7, 8] (fun s7 s8 wr => ∃ (i : Nat) (vals : List Value) (Ds : List (List Cel)), s8 = .int .i64 i ∧ i ≤ n + f ∧ MG wp wp.heap.size wr s7 vals Ds ∧ passP f Ks = Ds ++ passP f (Ks.drop i) ∧ Ds.length ≤ i ∧ Below wp.heap.size wp wr) (fun _ s8 _ => n + f - (intOf s8).toNat)
      case atStart => exact ⟨0, [], [], rfl, Nat.zero_le _, MG.nil _ _ _, rfl, Nat.le_refl _, Below.refl _ _⟩
      case round =>
        obtain ⟨i, vals, Ds, rfl, hi, hmg, hx, hdl, hb⟩ := hrel
        rename World => wr
        have HMG := Lib.hid hmg
        have HX := Lib.hid hx
        have Hbr := Lib.hid hb
        clear hmg hx hb
        by_cases hil : i < n
        · have d2 : decide ((i : Int) < (n : Int)) = true := decide_eq_true (by omega)
          obtain ⟨ad, rfl, hc⟩ := HRC.out.keep (Keeps.of_below Hbr.out) (by omega)
          obtain ⟨J0, hJ0⟩ : ∃ J, Ks[i]? = some J := ⟨_, List.getElem?_eq_getElem (by rw [← HKN.out]; exact hil)⟩
          obtain ⟨Pi, ci, a0, -⟩ := hc i J0 hJ0
          obtain ⟨adw, eadw, hcw⟩ := HRC.out (by omega)
          injection eadw with eadw
          subst eadw
          obtain ⟨Pw, cw, a0w, hroww⟩ := hcw i J0 hJ0
          have a0w' := Keeps.of_below Hbr.out _ _ a0w
          rw [a0] at a0w'
          injection a0w' with a0w'
          injection a0w' with e1 _ e3
          subst e1 e3
          obtain ⟨j0, hj0⟩ : ∃ j, j = J0.length := ⟨_, rfl⟩
          have hrv0 : RV wp wp.heap.size wr (.slice Pi J0.length ci) J0 := .inl ⟨_, _, rfl, hroww⟩
          have hfl0 : J0.length ≤ 1000 := Nat.le_trans (flatJ_len (List.mem_of_getElem? hJ0)) HOK.out.fl
          rw [← hj0] at a0 hrv0
          obtain ⟨i1, hi1⟩ : ∃ i1, i1 = i + 1 := ⟨_, rfl⟩
          obtain ⟨e, he⟩ : ∃ e, e = i + f := ⟨_, rfl⟩
          have i0 : (0 : Int) ≤ (i : Int) := by omega
          have i2 : (i : Int) < (n : Int) := by omega
          have HJ0 := Lib.hid hJ0
          have HRV0 := Lib.hid hrv0
          have HI1 := Lib.hid hi1
          have HE := Lib.hid he
          have HJL := Lib.hid hj0
          clear hc hJ0 hcw hroww a0w hj0 hfl0 hrv0 hi1 he
          go_wp2_with fail
          go_loopw [9, 10] (fun s9 s10 wy => ∃ (k j : Nat) (A1 : Option Addr) (c1 : Nat), s10 = .int .i64 k ∧ s9 = .slice A1 j c1 ∧ i1 ≤ k ∧ k ≤ e ∧ k ≤ n ∧ j = (((Ks.drop (i + 1)).take (k - (i + 1))).foldl twoP J0).length ∧ RV wp wp.heap.size wy s9 (((Ks.drop (i + 1)).take (k - (i + 1))).foldl twoP J0) ∧ Below wr.heap.size wr wy) (fun _ s10 _ => n - (intOf s10).toNat)
          case atStart => exact ⟨i1, j0, _, _, by rw [HI1.out]; go_num, rfl, Nat.le_refl _, by have := HI1.out; have := HE.out; omega, by have := HI1.out; omega, by rw [HI1.out, Nat.sub_self]; exact HJL.out, by rw [HI1.out, Nat.sub_self]; exact HRV0.out, Below.refl _ _⟩
          case round =>
            obtain ⟨k, j, A1, c1, rfl, rfl, hk1, hk2, hk3, hj, hrv, hb2⟩ := hrel
            rename World => wy
            have HRV := Lib.hid hrv
            have HJ := Lib.hid hj
            have Hb2 := Lib.hid hb2
            have HBY := Lib.hid (Hbr.out.trans (hb2.mono Hbr.out.size))
            clear hrv hj hb2
            by_cases hke : k < e ∧ k < n
            · have d3 : decide ((k : Int) < (e : Int)) = true := decide_eq_true (by omega)
              have d4 : decide ((k : Int) < (n : Int)) = true := decide_eq_true (by omega)
              have d3n : decide (k < e) = true := decide_eq_true hke.1
              have d4n : decide (k < n) = true := decide_eq_true hke.2
              obtain ⟨K, hK⟩ : ∃ J, Ks[k]? = some J := ⟨_, List.getElem?_eq_getElem (by rw [← HKN.out]; exact hke.2)⟩
              obtain ⟨ad', ead, hc⟩ := HRC.out.keep (Keeps.of_below HBY.out) (by omega)
              injection ead with ead
              subst ead
              obtain ⟨Pk, ck, ak, hrowk⟩ := hc k K hK
              obtain ⟨q, hq⟩ : ∃ q, q = k - (i + 1) := ⟨_, rfl⟩
              obtain ⟨Jc, hJc⟩ : ∃ Jc, Jc = ((Ks.drop (i + 1)).take (k - (i + 1))).foldl twoP J0 := ⟨_, rfl⟩
              obtain ⟨hev, hln⟩ := fold_ok (q := k - (i + 1)) HOK.out HJ0.out
              rw [← hJc] at hev hln
              have hrow1 : RowC wy A1 j Jc := by
                obtain ⟨P9, c9, e9, h9⟩ := HRV.out.row HBY.out
                injection e9 with e9 e10 _
                rw [← hJc] at h9 e10
                rw [e9, e10]
                exact h9
              have hjl : j = Jc.length := by rw [HJ.out, hJc]
              have hKl : K.length ≤ 1000 := Nat.le_trans (flatJ_len (List.mem_of_getElem? hK)) HOK.out.fl
              have hsn := fold_snoc (J0 := J0) hK (show i + 1 ≤ k by rw [← HI1.out]; exact hk1)
              rw [← hJc] at hsn
              obtain ⟨jk, hjk⟩ : ∃ z, z = K.length := ⟨_, rfl⟩
              rw [← hjk] at ak hrowk hKl
              have HTW := Lib.hid (rTwo_any A1 Pk c1 ck j jk me Jc K wy hrow1 hrowk hjl hjk (by rw [hjl]; exact hln) hKl (fun x hx => by
                rcases List.mem_append.1 hx with hx | hx
                · exact hev x hx
                · exact HOK.out.ev x (List.mem_flatten.2 ⟨K, List.mem_of_getElem? hK, hx⟩)) hme)
              have HSN := Lib.hid hsn
              have m3 : (i : Int) + (f : Int) = (e : Int) := by have := HE.out; omega
              have m4 : IntKind.i64.wrap (e : Int) = (e : Int) := IntWalk.i64_in _ (by omega)
              have k0 : (0 : Int) ≤ (k : Int) := by omega
              have k1 : (k : Int) < (n : Int) := by omega
              have HKE := Lib.hid hke
              clear hc hK hq hJc hev hln hrow1 hjl hKl hsn hrowk hjk hke
              go_wp2_with fail
              refine HTW.out.mono ?_
              rintro e9 w9 ⟨v9, u9, rfl, g9, b9⟩
              obtain ⟨P9, c9, f9, -⟩ := g9.form
              have hl9 := g9.len
              rw [← HSN.out] at g9 hl9
              rw [hl9] at f9
              have HRV9 : Hid (RV wp wp.heap.size w9 v9 (((Ks.drop (i + 1)).take (k + 1 - (i + 1))).foldl twoP J0)) := Lib.hid (.inr ⟨u9, g9.mono HBY.out.size⟩)
              have HB9 := Lib.hid (Hb2.out.trans (b9.mono Hb2.out.size))
              obtain ⟨j9, hj9⟩ : ∃ j9, j9 = (((Ks.drop (i + 1)).take (k + 1 - (i + 1))).foldl twoP J0).length := ⟨_, rfl⟩
              rw [← hj9] at f9
              subst f9
              have HJ9 := Lib.hid hj9
              clear g9 b9 hl9 hj9 HTW
              go_wp2
              go_roundw
              case rel => exact ⟨k + 1, j9, _, _, by go_num, rfl, by omega, by have := HKE.out; omega, by have := HKE.out; omega, HJ9.out, HRV9.out, HB9.out⟩
              case measure => have := HKE.out; simp [intOf]; omega
            · have hkm : k = min (i + f) Ks.length := by
                have := HE.out
                have := HI1.out
                have := HKN.out
                rcases Nat.lt_or_ge k e with h | h
                · have : ¬ k < n := fun h2 => hke ⟨h, h2⟩
                  rw [Nat.min_eq_right (by omega)]
                  omega
                · rw [Nat.min_eq_left (by omega)]
                  omega
              have hone := one_eq (show 1 ≤ f by omega) HJ0.out HOK.out.ri hkm
              have hrvf := HRV.out
              rw [hone] at hrvf
              obtain ⟨v', Y, hrun, hmg', hbY⟩ := mg_more (HMG.out.below Hb2.out) hrvf (by omega) HBY.out.size
              have hpx : passP f Ks = (Ds ++ [grpR ((Ks.drop i).take f).flatten]) ++ passP f (Ks.drop e) := by
                rw [HX.out, pass_step (show 1 ≤ f by omega) (show i < Ks.length by rw [← HKN.out]; exact hil), HE.out, List.append_assoc]
                rfl
              have Hrun := Lib.hid hrun
              have HMG' := Lib.hid hmg'
              have HBF := Lib.hid (HBY.out.trans hbY)
              have HPX := Lib.hid hpx
              have HDL : Hid ((Ds ++ [grpR ((Ks.drop i).take f).flatten]).length ≤ e) := Lib.hid (by rw [List.length_append, List.length_singleton]; have := HE.out; omega)
              have m3 : (i : Int) + (f : Int) = (e : Int) := by have := HE.out; omega
              have m4 : IntKind.i64.wrap (e : Int) = (e : Int) := IntWalk.i64_in _ (by have := HE.out; omega)
              clear hone hrvf hrun hmg' hbY hpx
              by_cases hk4 : k < e
              · have hk5 : ¬ k < n := fun h => hke ⟨hk4, h⟩
                have d3 : decide ((k : Int) < (e : Int)) = true := decide_eq_true (by omega)
                have d3n : decide (k < e) = true := decide_eq_true (by omega)
                have d4 : decide ((k : Int) < (n : Int)) = false := decide_eq_false (by omega)
                have d4n : decide (k < n) = false := decide_eq_false (by omega)
                clear hke hkm
                go_wp2_with (first | (at_builtin; have _t := Hrun; refine wpList_append_eq rfl (.tmp 46) (.tmp 48) 29 rfl _ _ _ _ rfl rfl Hrun.out ?_; clear _t Hrun) | fail)
                go_roundw
                case rel => exact ⟨e, _, _, by first | rfl | go_num, by have := HE.out; omega, HMG'.out, HPX.out, by have := HDL.out; omega, HBF.out⟩
                case measure => have := HE.out; simp [intOf]; omega
              · have d3 : decide ((k : Int) < (e : Int)) = false := decide_eq_false (by omega)
                have d3n : decide (k < e) = false := decide_eq_false (by omega)
                clear hke hkm
                go_wp2_with (first | (at_builtin; have _t := Hrun; refine wpList_append_eq rfl (.tmp 46) (.tmp 48) 29 rfl _ _ _ _ rfl rfl Hrun.out ?_; clear _t Hrun) | fail)
                go_roundw
                case rel => exact ⟨e, _, _, by first | rfl | go_num, by have := HE.out; omega, HMG'.out, HPX.out, by have := HDL.out; omega, HBF.out⟩
                case measure => have := HE.out; simp [intOf]; omega
        · have d2 : decide ((i : Int) < (n : Int)) = false := decide_eq_false (by omega)
          have hdr : Ks.drop i = [] := List.drop_eq_nil_iff.2 (by rw [← HKN.out]; omega)
          have hds : passP f Ks = Ds := by rw [HX.out, hdr, pass_nil, List.append_nil]
          obtain ⟨P', c', hv', hrc'⟩ := HMG.out.form Hbr.out
          have hlen : Ds.length = (n + f - 1) / f := by rw [← hds, pass_len (by omega), HKN.out]
          have hclt := ceil_lt (show 2 ≤ n by omega) hf
          have hpos : 1 ≤ (n + f - 1) / f := Nat.div_pos (by omega) (by omega)
          have hok' := HOK.out.pass (f := f) (by omega)
          have hgr' := pass_grp (f := f) (by omega) Ks
          rw [hds] at hok' hgr'
          obtain ⟨n', hn'⟩ : ∃ n', n' = Ds.length := ⟨_, rfl⟩
          rw [← hn'] at hv' hrc' hlen
          have hps' : p + 1 + passN f n' = passN f N := by rw [hlen]; have := HPS.out.1; have := HPS2.out; omega
          have HRC' : Hid (RC wr P' n' Ds) := Lib.hid hrc'
          have HALL := Lib.hid (And.intro hn' (And.intro hok' (And.intro (hgr'.trans HGR.out) hps')))
          have hnn : n' < n ∧ 1 ≤ n' := by omega
          have HBO := Lib.hid (Hb.out.trans (Hbr.out.mono Hb.out.size))
          clear hdr hds hrc' hlen hclt hpos hok' hgr' hn' hps' HMG
          subst hv'
          go_wp2
          go_roundw
          case rel => exact ⟨n', c', p + 1, P', Ds, rfl, by go_num, HRC'.out, HALL.out.1, by omega, HALL.out.2.1, HALL.out.2.2.1, HALL.out.2.2.2, fun h => by omega, HBO.out⟩
          case measure => simp [lenOf]; omega
    · have d1 : decide ((1 : Int) < (n : Int)) = false := decide_eq_false (by omega)
      have d1n : decide (1 < n) = false := decide_eq_false hlt
      by_cases hn0 : n = 0
      · have hN0 := HZ.out hn0
        have e1 : ((n : Int) == 0) = true := by rw [hn0]; rfl
        have hJs : Js = [] := List.length_eq_zero_iff.1 (by rw [← HN.out]; exact hN0)
        have hg : GRs w.heap.size wp (.slice none 0 0) [] (grpR Js.flatten) := by rw [hJs]; exact GRs.nil _ _
        have hp0 : passN f N = 0 := passN_one (by omega)
        have HG := Lib.hid hg
        have HP0 := Lib.hid hp0
        clear hg hp0 hJs hN0 hn0
        go_wp2
        refine bodyPost_ret (results_tmp2 rfl _ _ _) rfl ?_
        exact ⟨_, [], by rw [HP0.out]; rfl, HG.out, Hb.out⟩
      · have hn1' : n = 1 := by omega
        have e1 : ((n : Int) == 0) = false := by rw [beq_eq_false_iff_ne]; omega
        have hkl : Ks.length = 1 := by rw [← HKN.out]; exact hn1'
        obtain ⟨J, hJ⟩ := List.length_eq_one_iff.1 hkl
        obtain ⟨ad, rfl, hc⟩ := HRC.out (by omega)
        obtain ⟨Pi, ci, a0, hrow⟩ := hc 0 J (by rw [hJ]; rfl)
        rw [addZ] at a0
        have hri := HOK.out.ri J (by rw [hJ]; simp)
        have hfl : J.length ≤ 1000 := Nat.le_trans (flatJ_len (by rw [hJ]; simp)) HOK.out.fl
        have hev : ∀ x ∈ J ++ [], EvenC me x ∧ x.key.length ≤ 1000 := fun x hx => HOK.out.ev x (by rw [hJ]; simpa using hx)
        have hfin : twoP J [] = grpR Js.flatten := by rw [twoP_nil2, ← HGR.out, hJ, List.flatten_singleton, grpR_self hri]
        have hpe : p = passN f N := by have := HPS.out.1; rw [hn1', passN_one (Nat.le_refl 1)] at this; omega
        obtain ⟨j, hj⟩ : ∃ j, j = J.length := ⟨_, rfl⟩
        rw [← hj] at a0 hrow hfl
        have hT := rTwo_any Pi none ci 0 j 0 me J [] wp hrow (fun h => absurd h (by omega)) hj rfl hfl (by omega) hev hme
        rw [hfin] at hT
        have HT := Lib.hid hT
        have HPE := Lib.hid hpe
        have i1 : (0 : Int) < (n : Int) := by omega
        clear hkl hJ hc hri hev hfin hpe hT hrow hj hfl
        go_wp2_with fail
        refine HT.out.mono ?_
        rintro e9 w9 ⟨v9, u9, rfl, g9, b9⟩
        have HG9 := Lib.hid (g9.mono Hb.out.size)
        have HB9 := Lib.hid (Hb.out.trans (b9.mono Hb.out.size))
        clear g9 b9
        go_wp2
        refine bodyPost_ret (results_tmp2 rfl _ _ _) rfl ?_
        exact ⟨v9, u9, by rw [← HPE.out]; rfl, HG9.out, HB9.out⟩
end Go.Proofs.Ytmolfcccfekcpaa
