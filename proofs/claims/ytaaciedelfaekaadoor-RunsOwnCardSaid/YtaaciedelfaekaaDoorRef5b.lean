/- The reference's Runs. -/
import Derived.IntWalk
import Derived.Test.YtaaciedelfaekaaDoorRef5a
import Derived.Test.YtaaciedelfaekaaDoorRput
import Derived.Test.YtaaciedelfaekaaDoorRfacts
import Derived.Test.YtaaciedelfaekaaDoorKnow5
namespace Go.Proofs.YtaaciedelfaekaaDoor
open Go.RowKit Go.Shelf
attribute [local go_sem] Oper.semAt_some
theorem GSz.belowS {B : Nat} {X Y : World} {st : RSt} {Js : List (List Cel)} (h : GSz B X st Js) (hb : Below X.heap.size X Y) : GSz B Y st Js := h.stayF fun k hk => hb.block k (h.fp_lt hk).2
theorem GSz.nil (B : Nat) (X : World) : GSz B X (.slice none 0 0, []) [] := ⟨World.ownsRow_nil _ _ _ _, rfl, fun i p J hp => by cases hp⟩
/-- What is held is laid behind the runs. -/
theorem gz_more {B : Nat} {X : World} {v u : Value} {gs : List (Value × List V5)} {us : List V5} {Js : List (List Cel)} {H : List Cel} (h : GSz B X (v, gs) Js) (hu : GRs B X u us H) (hl : Js.length + 1 ≤ 1000000) (hB : B ≤ X.heap.size) :
    ∃ v' gs' Y, (Builtin.append_ #[34, 34] 34 #[v, .slice (some ⟨X.heap.size, 0, none⟩) 1 1]).run Tryd.prog (X.alloc (.cells #[u] 29)) = .ok v' Y ∧ GSz B Y (v', gs') (Js ++ [H]) ∧ Below B X Y := by
  have hne : ∀ k, fpG u us k → v.ownBlock ≠ some k := fun k hk e => by
    obtain ⟨cs, T, e1, hT⟩ := hu.fp_cells hk
    obtain ⟨cs2, e2⟩ := cells_row h.1 e
    rw [e1] at e2
    injection e2 with e2
    injection e2 with _ e3 _
    rcases hT with hT | hT <;> (rw [hT] at e3; exact absurd e3 (by decide))
  obtain ⟨v', Y, hrun, hG, ht, -⟩ := append_gz h hu hne (by rw [h.2.1]; exact hl) hB
  exact ⟨v', _, Y, hrun, hG, ht.below (fun k hk => (h.fp_lt (.inl hk)).1) hB⟩
theorem runsP_cons (m : Nat) (H : List Cel) (c : Cel) (l : List Cel) : runsP m H (c :: l) = if hasK H c then runsP m (putC H c) l else if H.length = m then H :: runsP m [c] l else runsP m (putC H c) l := rfl
theorem putC_all {p : Cel → Prop} {H : List Cel} {c : Cel} (h : ∀ y ∈ H, p y) (hc : p c) (hj : ∀ y, p y → p (join2 y c)) : ∀ y ∈ putC H c, p y := by
  induction H with
  | nil => intro y hy; simp only [putC, List.mem_singleton] at hy; rw [hy]; exact hc
  | cons x l ih =>
    simp only [putC]
    split
    · intro y hy
      rcases List.mem_cons.1 hy with rfl | hy
      · exact h _ (by simp)
      · exact ih (fun z hz => h z (by simp [hz])) y hy
    · split
      · intro y hy
        rcases List.mem_cons.1 hy with rfl | hy
        · exact hj _ (h x (by simp))
        · exact h y (by simp [hy])
      · intro y hy
        rcases List.mem_cons.1 hy with rfl | hy
        · exact hc
        · exact h y hy
set_option maxRecDepth 100000 in
set_option maxHeartbeats 8000000 in
theorem rRuns_any (P : Option Addr) (c N m me : Nat) (L : List Cel) (w : World) (hr : RowC w P N L) (hN : N = L.length) (hN1 : N ≤ 1000) (ho : ∀ x ∈ L, EvenC me x ∧ x.key.length ≤ 1000) (hme : me ≤ 1000) :
    Calls Tryd.prog 19 #[.slice P N c, .int .i64 m] w fun e w' => ∃ v gs, e = .returned v ∧ GSz w.heap.size w' (v, gs) (runsP m [] L) ∧ Below w.heap.size w w' := by
  have HR := Lib.hid hr
  have HN := Lib.hid hN
  have HO := Lib.hid ho
  clear hr hN ho
  go_enter Tryd.func19, Tryd.ntmps19
  go_wp2_with fail
  go_loopw [5, 6, 7] (fun s5 s6 s7 wr => ∃ (i : Nat) (gs : List (Value × List V5)) (Js : List (List Cel)) (us : List V5) (H : List Cel), s7 = .int .i64 i ∧ i ≤ N ∧ runsP m [] L = Js ++ runsP m H (L.drop i) ∧ GSz w.heap.size wr (s5, gs) Js ∧ GRs w.heap.size wr s6 us H ∧ (H.length ≤ i ∧ Js.length ≤ i ∧ ∀ x ∈ H, EvenC me x ∧ x.key.length ≤ 1000) ∧ Below w.heap.size w wr) (fun _ _ s7 _ => N - (intOf s7).toNat)
  case atStart => exact ⟨0, [], [], [], [], rfl, Nat.zero_le _, rfl, GSz.nil _ _, GRs.nil _ _, ⟨Nat.le_refl _, Nat.le_refl _, fun x hx => absurd hx List.not_mem_nil⟩, Below.refl _ _⟩
  case round =>
    obtain ⟨i, gs, Js, us, H, rfl, hi, hx, hZ, hG, ⟨hl1, hl2, hHo⟩, hb⟩ := hrel
    rename World => wr
    rename_i s5 s6 _
    obtain ⟨Ph, ch, fh, -⟩ := hG.form
    have hul := hG.len
    rw [hul] at fh
    subst fh
    have hrow := hG.rowC.1
    obtain ⟨nh, hnh⟩ : ∃ nh, nh = H.length := ⟨_, rfl⟩
    rw [← hnh] at hG hrow hl1 ⊢
    have HZ := Lib.hid hZ
    have HG := Lib.hid hG
    have Hb := Lib.hid hb
    have HX := Lib.hid hx
    have HH := Lib.hid hHo
    have HRO := Lib.hid hrow
    have HNH := Lib.hid hnh
    clear hZ hG hb hx hHo hrow hul hnh
    by_cases hlt : i < N
    · have d1 : decide ((i : Int) < (N : Int)) = true := decide_eq_true (by omega)
      obtain ⟨x, hx⟩ : ∃ x, L[i]? = some x := ⟨_, List.getElem?_eq_getElem (by rw [← HN.out]; exact hlt)⟩
      have hdr : L.drop i = x :: L.drop (i + 1) := by rw [List.drop_eq_getElem_cons (List.getElem?_eq_some_iff.1 hx).1, (List.getElem?_eq_some_iff.1 hx).2]
      obtain ⟨ad, rfl, hcl⟩ := HR.out (by omega)
      obtain ⟨vk, vs, vn, vm, a0', a1', a2', a3', a4', hcx, hck⟩ := hcl i x hx
      obtain ⟨h1, h2⟩ := HO.out x (List.mem_of_getElem? hx)
      have hxk := hcx.key
      obtain ⟨Pk, ck, fk, nk, -⟩ := hxk
      obtain ⟨lk, hlk⟩ : ∃ lk, lk = x.key.length := ⟨_, rfl⟩
      rw [← hlk] at fk nk
      subst fk
      have k0 : Keeps w wr := Keeps.of_below Hb.out
      have HHA := Lib.hid (rHas_any Ph ch nh Pk lk ck H x wr HRO.out HNH.out (fun y hy => by have := (HH.out y hy).2; omega) (nk.keep k0) (by omega) (by omega))
      have HCX := Lib.hid hcx
      have HX2 := Lib.hid (show runsP m [] L = Js ++ runsP m H (x :: L.drop (i + 1)) by rw [HX.out, hdr])
      have HXE := Lib.hid (And.intro h1 h2)
      have HCK := Lib.hid hck
      obtain ⟨xc, hxc⟩ : ∃ xc, xc = x.cnt := ⟨_, rfl⟩
      rw [← hxc] at a1'
      have HXC := Lib.hid hxc
      have i0 : (0 : Int) ≤ (i : Int) := by omega
      have i1 : (i : Int) < (N : Int) := by omega
      have PUT0 := fun (Q : Option Addr) (n d : Nat) (us' : List V5) (K : List Cel) (W : World) (hg : GRs w.heap.size W (.slice Q n d) us' K) (hb : Below w.heap.size w W) (hK : ∀ y ∈ K, EvenC me y ∧ y.key.length ≤ 1000) (hn : n ≤ 1000) =>
        rPut_any w.heap.size Q n d us' K _ vs vn vm x me W hg (HCX.out.keep (Keeps.of_below hb)) (fun y hy => (hK y hy).1) HXE.out.1 (fun y hy => by have := (hK y hy).2; omega) (by have := HXE.out.2; omega) hn (by omega) HCK.out hb.size
      rw [← hxc] at PUT0
      have PUT := Lib.hid PUT0
      have HAT := Lib.hid (fun (W : World) (hb : Below w.heap.size w W) => (show W.cell? (ad.add (i * 5)) = some (.slice Pk lk ck) ∧ W.cell? ⟨(ad.add (i * 5)).block, (ad.add (i * 5)).off + 1, none⟩ = some (.int .i64 xc) ∧ W.cell? ⟨(ad.add (i * 5)).block, (ad.add (i * 5)).off + 2, none⟩ = some vs ∧ W.cell? ⟨(ad.add (i * 5)).block, (ad.add (i * 5)).off + 3, none⟩ = some vn ∧ W.cell? ⟨(ad.add (i * 5)).block, (ad.add (i * 5)).off + 4, none⟩ = some vm from
        ⟨Keeps.of_below hb _ _ a0', Keeps.of_below hb _ _ a1', Keeps.of_below hb _ _ a2', Keeps.of_below hb _ _ a3', Keeps.of_below hb _ _ a4'⟩))
      have hOK := fun (K : List Cel) (hK : ∀ y ∈ K, EvenC me y ∧ y.key.length ≤ 1000) => putC_all (p := fun y => EvenC me y ∧ y.key.length ≤ 1000) hK ⟨h1, h2⟩ (fun y hy => ⟨join2_even hy.1 h1, hy.2⟩)
      have HOK := Lib.hid hOK
      obtain ⟨⟨_, _, es, -⟩, ⟨_, _, en, -⟩, ⟨_, _, em, -⟩⟩ := And.intro hcx.sum (And.intro hcx.mn hcx.mx)
      subst es en em
      have p0 := k0 _ _ a0'
      clear hcl hcx hck h1 h2 hx hdr nk hlk hxc PUT0 hOK k0 a0' a1' a2' a3' a4'
      go_wp2_with fail
      refine HHA.out.mono ?_
      rintro e w1 ⟨rfl, hb1⟩
      have HB1 := Lib.hid (Hb.out.trans (hb1.mono Hb.out.size))
      have HZ1 := Lib.hid (HZ.out.belowS hb1)
      have HG1 := Lib.hid (HG.out.below hb1)
      clear hb1 HHA HZ HG p0
      by_cases hc : hasK H x = false ∧ nh = m
      · obtain ⟨hc1, hc2⟩ := hc
        have hx3 : runsP m [] L = (Js ++ [H]) ++ runsP m (putC [] x) (L.drop (i + 1)) := by
          rw [HX2.out, runsP_cons, if_neg (by rw [hc1]; simp), if_pos (by rw [← HNH.out]; exact hc2), List.append_assoc]
          rfl
        have HX3 := Lib.hid hx3
        have d3 : ((nh : Int) == (m : Int)) = true := by rw [hc2]; simp
        obtain ⟨v', gs', Y, hrun, hGY, hbY⟩ := gz_more HZ1.out HG1.out (by omega) HB1.out.size
        have Hrun := Lib.hid hrun
        have HGY := Lib.hid hGY
        have HBY := Lib.hid (HB1.out.trans hbY)
        obtain ⟨q0, q1, q2, q3, q4⟩ := HAT.out Y HBY.out
        clear hx3 hrun hGY hbY hc2
        rw [hc1]
        clear hc1
        go_wp2_with (first | (at_builtin; have _t := Hrun; refine wpList_append_eq rfl (.tmp 28) (.tmp 30) 34 rfl _ _ _ _ rfl rfl Hrun.out ?_; clear _t Hrun) | fail)
        refine (PUT.out none 0 0 [] [] Y (GRs.nil _ _) HBY.out (fun y hy => absurd hy List.not_mem_nil) (by omega)).mono ?_
        rintro e w3 ⟨v3, us3, rfl, hg3, hb3⟩
        have HG3 := Lib.hid hg3
        have HZ3 := Lib.hid (HGY.out.belowS hb3)
        have HB3 := Lib.hid (HBY.out.trans (hb3.mono HBY.out.size))
        clear hg3 hb3
        go_wp2
        go_roundw
        case rel => exact ⟨i + 1, gs', Js ++ [H], us3, putC [] x, by go_num, by omega, HX3.out, HZ3.out, HG3.out, ⟨by simp [putC], by rw [List.length_append, List.length_singleton]; omega, HOK.out [] (fun y hy => absurd hy List.not_mem_nil)⟩, HB3.out⟩
        case measure => simp [intOf]; omega
      · have hx3 : runsP m [] L = Js ++ runsP m (putC H x) (L.drop (i + 1)) := by
          rw [HX2.out, runsP_cons]
          cases hh : hasK H x with
          | true => rw [if_pos rfl]
          | false => rw [if_neg (by simp), if_neg (fun e => hc ⟨hh, by rw [HNH.out]; exact e⟩)]
        have HX3 := Lib.hid hx3
        obtain ⟨q0, q1, q2, q3, q4⟩ := HAT.out w1 HB1.out
        have hpl := putC_lt x H
        have HPL := Lib.hid hpl
        clear hx3 hpl
        have FIN : ∀ K : Prop, K → K := fun _ k => k
        clear FIN
        cases hh : hasK H x with
        | true =>
          clear hh hc
          go_wp2_with fail
          refine (PUT.out Ph nh ch us H w1 HG1.out HB1.out HH.out (by omega)).mono ?_
          rintro e w3 ⟨v3, us3, rfl, hg3, hb3⟩
          have HG3 := Lib.hid hg3
          have HZ3 := Lib.hid (HZ1.out.belowS hb3)
          have HB3 := Lib.hid (HB1.out.trans (hb3.mono HB1.out.size))
          clear hg3 hb3
          go_wp2
          go_roundw
          case rel => exact ⟨i + 1, gs, Js, us3, putC H x, by go_num, by omega, HX3.out, HZ3.out, HG3.out, ⟨by have := HPL.out; have := HNH.out; omega, by omega, HOK.out H HH.out⟩, HB3.out⟩
          case measure => simp [intOf]; omega
        | false =>
          have hne : ¬ nh = m := fun e => hc ⟨hh, e⟩
          have d3 : ((nh : Int) == (m : Int)) = false := by rw [beq_eq_false_iff_ne]; omega
          clear hh hc hne
          go_wp2_with fail
          refine (PUT.out Ph nh ch us H w1 HG1.out HB1.out HH.out (by omega)).mono ?_
          rintro e w3 ⟨v3, us3, rfl, hg3, hb3⟩
          have HG3 := Lib.hid hg3
          have HZ3 := Lib.hid (HZ1.out.belowS hb3)
          have HB3 := Lib.hid (HB1.out.trans (hb3.mono HB1.out.size))
          clear hg3 hb3
          go_wp2
          go_roundw
          case rel => exact ⟨i + 1, gs, Js, us3, putC H x, by go_num, by omega, HX3.out, HZ3.out, HG3.out, ⟨by have := HPL.out; have := HNH.out; omega, by omega, HOK.out H HH.out⟩, HB3.out⟩
          case measure => simp [intOf]; omega
    · obtain rfl : i = N := by omega
      have d1 : decide ((i : Int) < (i : Int)) = false := by simp
      have hdr : L.drop i = [] := List.drop_eq_nil_iff.2 (by rw [← HN.out]; exact Nat.le_refl _)
      have hx3 : runsP m [] L = Js ++ (if H = [] then [] else [H]) := by rw [HX.out, hdr]; rfl
      by_cases hc : nh = 0
      · have h0 : H = [] := List.length_eq_zero_iff.1 (by rw [← HNH.out]; exact hc)
        rw [if_pos h0, List.append_nil] at hx3
        have HX3 := Lib.hid hx3
        have d4 : decide (0 < nh) = false := by simp; omega
        clear hx3 h0 hc hdr
        go_wp2
        go_ret
        exact ⟨_, gs, rfl, by rw [HX3.out]; exact HZ.out, Hb.out⟩
      · have h0 : ¬ H = [] := fun e => hc (by rw [HNH.out, e]; rfl)
        rw [if_neg h0] at hx3
        have HX3 := Lib.hid hx3
        have d4 : decide (0 < nh) = true := decide_eq_true (by omega)
        obtain ⟨v', gs', Y, hrun, hGY, hbY⟩ := gz_more HZ.out HG.out (by omega) Hb.out.size
        have Hrun := Lib.hid hrun
        have HGY := Lib.hid hGY
        have HBY := Lib.hid (Hb.out.trans hbY)
        clear hx3 hrun hGY hbY hc h0 hdr
        go_wp2_with (first | (at_builtin; have _t := Hrun; refine wpList_append_eq rfl (.tmp 41) (.tmp 43) 34 rfl _ _ _ _ rfl rfl Hrun.out ?_; clear _t Hrun) | fail)
        go_ret
        exact ⟨_, gs', rfl, by rw [HX3.out]; exact HGY.out, HBY.out⟩
end Go.Proofs.YtaaciedelfaekaaDoor
