/- The walk of the law's Facts: a schema that may be, rows of it, out of numbers. -/
import Derived.Test.YtejjbbomkedpcaaRowsX
import Derived.Test.YtejjbbomkedpcaaFactsPure
import Derived.Test.YtejjbbomkedpcaaWithin
import Derived.IntWalk
import Derived.Deep.RegionLaw
import Derived.BigRegion
import Derived.Deep.CutRange
import Derived.Deep.DeepCutAuto
namespace Go.Proofs.Ytejjbbomkedpcaa
open Go.RowKit
def FactsPost (dims : Int) (cards : List Int) (me : Int) (ns : List Int) (w : World) (e : Ending) (w' : World) : Prop :=
  ∃ cv rv C, e = .returned (.tuple #[.agg #[cv, .int .i64 (fMeas me)], rv]) ∧ w'.ownsRow w.heap.size 3 1 cv (fDims dims) (ints (fCards dims cards)) ∧ (∀ g ∈ blk cv, g < C) ∧ w.heap.size ≤ C ∧
    RowsX w' C rv (fRows (fCards dims cards) (fMeas me) ns) ∧ Below w.heap.size w w'
set_option maxRecDepth 100000 in
set_option maxHeartbeats 8000000 in
theorem Facts_any (dims me : Int) (A D : Option Addr) (n c m d : Nat) (cards ns : List Int) (w : World) (hA : Nums .i64 w A n cards) (hD : Nums .i64 w D m ns) (hn : n ≤ 9223372036854775807) (hm : m ≤ 9223372036854775807) (hd : inK .i64 dims) (hme : inK .i64 me) :
    Calls Try.prog 6 #[.int .i64 dims, .slice A n c, .int .i64 me, .slice D m d] w (FactsPost dims cards me ns w) := by
  obtain ⟨q, hq⟩ : ∃ q : Nat, dims % 4 = q := Int.eq_ofNat_of_zero_le (Int.emod_nonneg dims (show (4 : Int) ≠ 0 by omega))
  have hq3 : q ≤ 3 := by omega
  have w4 := fun W => lwithin dims 4 W hd (by omega) (by omega)
  rw [hq] at w4
  have W4 := Lib.hid w4
  have hfm : me % 3 = (fMeas me : Int) := by unfold fMeas; omega
  have w3 := fun W => lwithin me 3 W hme (by omega) (by omega)
  rw [hfm] at w3
  have W3 := Lib.hid w3
  have W7 := Lib.hid (fun W => lwithin dims 7 W hd (by omega) (by omega))
  have hfd : fDims dims = q + 1 := by unfold fDims; omega
  have Hfd := Lib.hid hfd
  have hml := fMeas_bd me
  obtain ⟨mm, hmm⟩ : ∃ mm, mm = fMeas me := ⟨_, rfl⟩
  rw [← hmm] at W3 hml
  have Hmm := Lib.hid hmm
  have HA := Lib.hid hA
  have HD := Lib.hid hD
  clear hq w4 hfm w3 hfd hmm hA hD
  go_enter Try.func6, Try.ntmps6
  go_wp2_with (go_at_call 11; refine (W3.out _).mono ?_; rintro e w2 ⟨rfl, rfl⟩)
  obtain ⟨S, hS⟩ : ∃ S, S = w.heap.size + 1 := ⟨_, rfl⟩
  have hs1 : Box2 24 ((w.alloc (.cells #[.slice none 0 0, .int .i64 0] 24)).alloc (.cells #[.slice none 0 0, .int .i64 mm] 24)) S (.slice none 0 0) (.int .i64 mm) := heap_new _ _ S (by simp [hS])
  have hs0 : Box2 24 ((w.alloc (.cells #[.slice none 0 0, .int .i64 0] 24)).alloc (.cells #[.slice none 0 0, .int .i64 mm] 24)) w.heap.size (.slice none 0 0) (.int .i64 0) := (Box2.new w 24 _ _).alloc _
  have hsb : Below w.heap.size w ((w.alloc (.cells #[.slice none 0 0, .int .i64 0] 24)).alloc (.cells #[.slice none 0 0, .int .i64 mm] 24)) := ((Below.refl _ _).alloc (Nat.le_refl _) _).alloc (by simp) _
  have hsz : ((w.alloc (.cells #[.slice none 0 0, .int .i64 0] 24)).alloc (.cells #[.slice none 0 0, .int .i64 mm] 24)).heap.size = S + 1 := by simp [hS]
  rw [← hS]
  have w5 := fun (x : Int) (hx : inK .i64 x) (W : World) => lwithin x 5 W hx (by omega) (by omega)
  have W5 := Lib.hid w5
  generalize (w.alloc _).alloc _ = w2 at hs1 hs0 hsb hsz ⊢
  have Hsb := Lib.hid hsb
  have Hsz := Lib.hid hsz
  have hS1 : w.heap.size < S := by omega
  have HS := Lib.hid hS
  clear hsb hsz hS w5
  go_loopw [11] (fun i wr => ∃ k : Nat, k ≤ q + 1 ∧ i = .int .i64 k ∧ ∃ cv, Box2 24 wr S cv (.int .i64 mm) ∧ wr.ownsRow (S + 1) 3 1 cv (fBase cards k).length (ints (fBase cards k)) ∧ Box2 24 wr w.heap.size (.slice none 0 0) (.int .i64 0) ∧ Below w.heap.size w wr ∧ S < wr.heap.size) (fun i _ => q + 1 - (intOf i).toNat)
  case atStart => exact ⟨0, by omega, rfl, _, hs1, World.ownsRow_nil _ _ _ _, hs0, Hsb.out, by rw [Hsz.out]; omega⟩
  case round =>
    obtain ⟨k, hk, rfl, cv, b1, o1, b0, hb, hz⟩ := hrel
    clear hs1 hs0
    have c0 := b1.cell0
    have B1 := Lib.hid b1
    have B0 := Lib.hid b0
    have O1 := Lib.hid o1
    have Hb := Lib.hid hb
    clear b1 b0 hb
    by_cases hlt : k ≤ q
    · obtain ⟨x, hx⟩ : ∃ x, x = cards[k]?.getD ((k : Int) + 2) := ⟨_, rfl⟩
      have hx2 : inK .i64 x := by
        rw [hx]
        cases hc : cards[k]? with
        | none => simp only [Option.getD_none, inK]; omega
        | some y => exact HA.out.ok y (List.mem_of_getElem? hc)
      have hfc : fCard cards k = 1 + x % 5 := by rw [fCard, ← hx]
      obtain ⟨v', w', hrun, ho', hgr⟩ := append_int wr.drew (S + 1) cv (fBase cards k) (1 + x % 5) wr.heap.size rfl o1 (by rw [fBase_len]; omega) (by exact hz)
      obtain ⟨A', c', hv', -⟩ := own_form ho'
      obtain ⟨n', hn'⟩ : ∃ n', n' = (fBase cards k ++ [1 + x % 5]).length := ⟨_, rfl⟩
      rw [← hn'] at hv'
      subst hv'
      have Hn' := Lib.hid hn'
      have hg1 : Box2 24 (wr.drew.alloc (.cells #[.int .i64 (1 + x % 5)] 3)) S cv (.int .i64 mm) := B1.out.alloc _
      have hg0 : Box2 24 (wr.drew.alloc (.cells #[.int .i64 (1 + x % 5)] 3)) w.heap.size (.slice none 0 0) (.int .i64 0) := B0.out.alloc _
      have hgo : (wr.drew.alloc (.cells #[.int .i64 (1 + x % 5)] 3)).ownsRow (S + 1) 3 1 cv (fBase cards k).length (ints (fBase cards k)) := O1.out.alloc _
      have hgb : Below w.heap.size w (wr.drew.alloc (.cells #[.int .i64 (1 + x % 5)] 3)) := (below_drewN Hb.out 1).alloc (Nat.le_of_lt (by exact Nat.lt_trans hS1 hz)) _
      have hgz : S < (wr.drew.alloc (.cells #[.int .i64 (1 + x % 5)] 3)).heap.size := by rw [show (wr.drew.alloc (.cells #[.int .i64 (1 + x % 5)] 3)).heap.size = wr.heap.size + 1 from by simp]; omega
      have b1' := hg1.grown hgr hgo (by decide)
      have hend : Box2 24 (w'.setCell ⟨S, 0, none⟩ (.slice A' n' c')) S (.slice A' n' c') (.int .i64 mm) ∧ (w'.setCell ⟨S, 0, none⟩ (.slice A' n' c')).ownsRow (S + 1) 3 1 (.slice A' n' c') (fBase cards (k + 1)).length (ints (fBase cards (k + 1))) ∧
          Box2 24 (w'.setCell ⟨S, 0, none⟩ (.slice A' n' c')) w.heap.size (.slice none 0 0) (.int .i64 0) ∧ Below w.heap.size w (w'.setCell ⟨S, 0, none⟩ (.slice A' n' c')) ∧ S < (w'.setCell ⟨S, 0, none⟩ (.slice A' n' c')).heap.size := by
        rw [fBase_snoc, hfc]
        refine ⟨b1'.set0 _, own_box ho' b1' (by decide) _ _, (hg0.grown hgr hgo (by decide)).only ((Only.refl S _).setCell 0 _) (by omega), ?_, ?_⟩
        · exact (hgb.grown hgr (by omega) fun j hj => by have := (hgo.lt j hj).1; omega).setCell (by exact Nat.le_of_lt hS1) _
        · have := hgr.size; simp [World.setCell]; omega
      have E := Lib.hid hend
      have c0' := b1'.cell0
      have f0' := b1'.frozen 0
      have Hrun := Lib.hid hrun
      have Ho' := Lib.hid ho'
      have Hgr := Lib.hid hgr
      have W5x := Lib.hid (W5.out x hx2)
      have hx5 : 0 ≤ x % 5 ∧ x % 5 ≤ 4 := by omega
      obtain ⟨hx50, hx51⟩ := hx5
      have Hx := Lib.hid hx
      have Hfc := Lib.hid hfc
      clear hrun ho' hgr hx hfc o1 hn' hg1 hg0 hgo hgb hgz b1' hend
      have hwr : IntKind.i64.wrap (1 + x % 5) = 1 + x % 5 := IntWalk.i64_in _ (by omega)
      by_cases hkn : k < n
      · obtain ⟨ad, y, rfl, hy, hy2, hyc⟩ := (HA.out.keep (Keeps.of_below Hb.out)).at_ hkn
        have : y = x := by rw [Hx.out, hy]; rfl
        subst this
        have Hy := Lib.hid hy
        have hxc : (0 : Int) ≤ k := by omega
        have hkn2 : (k : Int) < n := by omega
        clear hy
        go_wp2_with (go_at_call 11; refine (W4.out _).mono ?_; rintro e w2 ⟨rfl, rfl⟩)
        go_region_law (first | (go_simp; go_at_call 11; refine (W5x.out _).mono ?_; rintro e w2 ⟨rfl, rfl⟩) | (refine step_append_eq (by rfl) (.tmp 39) (.tmp 43) 22 (by rfl) cv (.slice (some ⟨wr.heap.size, 0, none⟩) 1 1) (.slice A' n' c') w' (by rfl) (by rfl) Hrun.out ?_) | fail)
        all_goals
          go_wp2
          exact ⟨⟨k + 1, by omega, by go_num, _, E.out⟩, by simp [intOf]; omega⟩
      · have hkn2 : ¬ (k : Int) < n := by omega
        have hx3 : x = (k : Int) + 2 := by rw [Hx.out, List.getElem?_eq_none (by rw [HA.out.len]; omega)]; rfl
        subst hx3
        go_wp2_with (go_at_call 11; refine (W4.out _).mono ?_; rintro e w2 ⟨rfl, rfl⟩)
        go_region_law (first | (go_simp; go_at_call 11; refine (W5x.out _).mono ?_; rintro e w2 ⟨rfl, rfl⟩) | (refine step_append_eq (by rfl) (.tmp 39) (.tmp 43) 22 (by rfl) cv (.slice (some ⟨wr.heap.size, 0, none⟩) 1 1) (.slice A' n' c') w' (by rfl) (by rfl) Hrun.out ?_) | fail)
        all_goals
          go_wp2
          exact ⟨⟨k + 1, by omega, by go_num, _, E.out⟩, by simp [intOf]; omega⟩
    · obtain rfl : k = q + 1 := by omega
      clear hk hlt o1
      have hcard : (fBase cards (q + 1)) = fBase cards (fDims dims) := by rw [Hfd.out]
      obtain ⟨A1, c1, hcv, -, -, hg1⟩ := own_form O1.out
      rw [fBase_len] at hcv hg1
      obtain ⟨g, rfl, hgS, hgc⟩ := hg1 (by omega)
      subst hcv
      have hfc1 := hgc 0 (.int .i64 (fCard cards 0)) (by simp [ints, fBase, List.range_succ_eq_map])
      have hff := (World.ownsRow.frozenAt (by rw [fBase_len] at O1; exact O1.out) 0 : wr.frozen? ⟨g, 0, none⟩ = false)
      have h7 : 0 ≤ dims % 7 ∧ dims % 7 < 7 := by omega
      obtain ⟨h70, h71⟩ := h7
      go_wp2_with fail
      refine (W4.out _).mono ?_
      rintro e w2 ⟨rfl, rfl⟩
      go_wp2_with fail
      refine (W7.out _).mono ?_
      rintro e w2 ⟨rfl, rfl⟩
      go_upto_if 48 with (fail)
      go_cut [] from 49 to 51 (fun wx => ∃ g c1, Box2 24 wx S (.slice (some ⟨g, 0, none⟩) (fDims dims) c1) (.int .i64 mm) ∧ wx.ownsRow (S + 1) 3 1 (.slice (some ⟨g, 0, none⟩) (fDims dims) c1) (fDims dims) (ints (fCards dims cards)) ∧ Box2 24 wx w.heap.size (.slice none 0 0) (.int .i64 0) ∧ Below w.heap.size w wx ∧ S < wx.heap.size)
      case first =>
        have o2 := O1.out
        rw [fBase_len] at o2
        by_cases h0 : dims % 7 = 0
        · have hc : fCards dims cards = (fBase cards (q + 1)).set 0 16 := by rw [fCards, if_pos h0, Hfd.out]
          have hfix : Box2 24 (wr.setCell ⟨g, 0, none⟩ (.int .i64 16)) S (.slice (some ⟨g, 0, none⟩) (fDims dims) c1) (.int .i64 mm) ∧ (wr.setCell ⟨g, 0, none⟩ (.int .i64 16)).ownsRow (S + 1) 3 1 (.slice (some ⟨g, 0, none⟩) (fDims dims) c1) (fDims dims) (ints (fCards dims cards)) ∧ Box2 24 (wr.setCell ⟨g, 0, none⟩ (.int .i64 16)) w.heap.size (.slice none 0 0) (.int .i64 0) ∧ Below w.heap.size w (wr.setCell ⟨g, 0, none⟩ (.int .i64 16)) ∧ S < (wr.setCell ⟨g, 0, none⟩ (.int .i64 16)).heap.size := by
            rw [Hfd.out, hc]
            refine ⟨B1.out.only (only_setCell g wr 0 _) (by omega), ?_, B0.out.only (only_setCell g wr 0 _) (by omega), Hb.out.setCell (by exact (by omega : w.heap.size ≤ g)) _, by simp [World.setCell]; exact hz⟩
            have := (o2.stored 0 (.int .i64 16)).1
            simpa [ints, List.map_set] using this
          have F := Lib.hid hfix
          have h7b : (dims % 7 == 0) = true := by simp [h0]
          clear o2 hc hfix O1
          go_wp2
          go_meet
          exact ⟨g, c1, F.out⟩
        · have hc : fCards dims cards = fBase cards (q + 1) := by rw [fCards, if_neg h0, Hfd.out]
          have hfix : Box2 24 wr S (.slice (some ⟨g, 0, none⟩) (fDims dims) c1) (.int .i64 mm) ∧ wr.ownsRow (S + 1) 3 1 (.slice (some ⟨g, 0, none⟩) (fDims dims) c1) (fDims dims) (ints (fCards dims cards)) ∧ Box2 24 wr w.heap.size (.slice none 0 0) (.int .i64 0) ∧ Below w.heap.size w wr ∧ S < wr.heap.size := by
            rw [Hfd.out, hc]
            exact ⟨B1.out, o2, B0.out, Hb.out, hz⟩
          have F := Lib.hid hfix
          have h7b : (dims % 7 == 0) = false := by simp [h0]
          clear o2 hc hfix O1
          go_wp2
          go_meet
          exact ⟨g, c1, F.out⟩
      case rest =>
        obtain ⟨g, c1, b1, o1, b0, hb, hz⟩ := hcut
        obtain ⟨cs, hcs⟩ : ∃ cs, cs = fCards dims cards := ⟨_, rfl⟩
        rw [← hcs] at o1
        have hcl : cs.length = fDims dims := by rw [hcs, fCards_len]
        have hcb : ∀ x ∈ cs, 1 ≤ x ∧ x ≤ 16 := by rw [hcs]; exact fun x hx => fCards_bd x hx
        have hdd := fDims_bd dims
        obtain ⟨dd, hdd2⟩ : ∃ dd, dd = fDims dims := ⟨_, rfl⟩
        rw [← hdd2] at b1 o1 hcl hdd
        obtain ⟨hdd3, hdd4⟩ := hdd
        have Hcl := Lib.hid hcl
        have Hcb := Lib.hid hcb
        have Hcs := Lib.hid hcs
        have Hdd := Lib.hid hdd2
        have O1 := Lib.hid o1
        have B1 := Lib.hid b1
        have B0 := Lib.hid b0
        have X := Lib.hid hb
        clear Hb
        clear hcl hcb hcs hdd2 o1 b1 b0 hb W4 W7 Hfd
        clear h70 h71 hfc1 hff hgc hcard
        go_wp2_with fail
        go_loopw [13, 14] (fun rv i wr => ∃ k : Nat, k ≤ m ∧ k ≤ 40 ∧ i = .int .i64 k ∧ RowsX wr wc.heap.size rv ((ns.take k).map (fRow cs mm)) ∧ Below wc.heap.size wc wr) (fun _ i _ => 40 - (intOf i).toNat)
        case atStart => exact ⟨0, by omega, by omega, rfl, by simpa using RowsX.nil _ _, Below.refl _ _⟩
        case round =>
          rename World => w1
          obtain ⟨k, hk, hk4, rfl, hR, hb2⟩ := hrel
          have HR := Lib.hid hR
          have Hb2 := Lib.hid hb2
          have hz1 : wc.heap.size ≤ w1.heap.size := hb2.size
          clear hR hb2
          by_cases hlt : k < m ∧ k < 40
          · obtain ⟨hlt, hl4⟩ := hlt
            obtain ⟨ad, x, rfl, hx, hx2, hxc⟩ := (HD.out.keep (Keeps.of_below (X.out.trans (Hb2.out.mono X.out.size)))).at_ hlt
            obtain ⟨hx3, hx4⟩ := hx2
            have Hx := Lib.hid hx
            have hkb : decide ((k : Int) < 40) = true := by simp; omega
            clear hx
            go_wp2_with fail
            obtain ⟨r0, hr0⟩ : ∃ r, r = w1.heap.size := ⟨_, rfl⟩
            rw [← hr0]
            have q1 : Box2 33 (w1.alloc (.cells #[.slice none 0 0, .slice none 0 0] 33)) r0 (.slice none 0 0) (.slice none 0 0) := heap_new _ _ r0 hr0
            have q2 : Below r0 w1 (w1.alloc (.cells #[.slice none 0 0, .slice none 0 0] 33)) := by rw [hr0]; exact (Below.refl _ _).alloc (Nat.le_refl _) _
            have q3 : r0 < (w1.alloc (.cells #[.slice none 0 0, .slice none 0 0] 33)).heap.size := by simp [hr0]
            generalize w1.alloc _ = w2 at q1 q2 q3 ⊢
            have Hr0 := Lib.hid hr0
            clear hr0
            go_loopw [15, 17] (fun y j wr => ∃ e : Nat, e ≤ dd ∧ j = .int .i64 e ∧ y = .int .i64 (fRest (cs.take e) x) ∧ ∃ kv, Box2 33 wr r0 kv (.slice none 0 0) ∧ wr.ownsRow (r0 + 1) 3 1 kv (fKey (cs.take e) x).length (ints (fKey (cs.take e) x)) ∧ Below r0 w1 wr ∧ r0 < wr.heap.size) (fun _ j _ => dd - (intOf j).toNat)
            case atStart => exact ⟨0, by omega, rfl, rfl, _, q1, World.ownsRow_nil _ _ _ _, q2, q3⟩
            case round =>
              rename World => w3
              obtain ⟨e, he, rfl, rfl, kv, s1, s2, s3, s4⟩ := hrel
              clear q1 q2 q3
              have hrw : r0 = w1.heap.size := Hr0.out
              have sS := (B1.out.below Hb2.out (by exact hz)).below s3 (by omega)
              have cS := sS.cell0
              have dS := sS.cell1
              have oS := own_below (own_below O1.out Hb2.out (Nat.le_refl _)) s3 (by omega)
              have c3 := s1.cell0
              have S1 := Lib.hid s1
              have S2 := Lib.hid s2
              have S3 := Lib.hid s3
              clear s1 s2 s3 sS hrw
              by_cases hed : e < dd
              · obtain ⟨c, hc⟩ : ∃ c, cs[e]? = some c := ⟨_, List.getElem?_eq_getElem (by rw [Hcl.out]; exact hed)⟩
                have hc1 := Hcb.out c (List.mem_of_getElem? hc)
                obtain ⟨hc2, hc3⟩ := hc1
                have cg : w3.cell? ⟨g, e, none⟩ = some (.int .i64 c) := by
                  rw [World.ownsRow.cellAt oS e (by omega)]; simp [ints, hc]
                obtain ⟨y, hy⟩ : ∃ y, y = fRest (cs.take e) x := ⟨_, rfl⟩
                have hy2 : inK .i64 y := by rw [hy]; exact fRest_bd0 _ _ ⟨hx3, hx4⟩
                rw [← hy]
                have Wy := Lib.hid (fun W => lwithin y c W hy2 (by omega) (by omega))
                obtain ⟨v', w', hrun, ho', hgr⟩ := append_int w3.drew (r0 + 1) kv (fKey (cs.take e) x) (y % c) w3.heap.size rfl S2.out (by rw [fKey_len, List.length_take]; omega) (by exact s4)
                obtain ⟨A', c', hv', -⟩ := own_form ho'
                obtain ⟨n', hn'⟩ : ∃ n', n' = (fKey (cs.take e) x ++ [y % c]).length := ⟨_, rfl⟩
                rw [← hn'] at hv'
                subst hv'
                have g1 : Box2 33 (w3.drew.alloc (.cells #[.int .i64 (y % c)] 3)) r0 kv (.slice none 0 0) := S1.out.alloc _
                have g2 : (w3.drew.alloc (.cells #[.int .i64 (y % c)] 3)).ownsRow (r0 + 1) 3 1 kv (fKey (cs.take e) x).length (ints (fKey (cs.take e) x)) := S2.out.alloc _
                have g3 : Below r0 w1 (w3.drew.alloc (.cells #[.int .i64 (y % c)] 3)) := (below_drewN S3.out 1).alloc (Nat.le_of_lt (by exact s4)) _
                have g4 : r0 < (w3.drew.alloc (.cells #[.int .i64 (y % c)] 3)).heap.size := by rw [show (w3.drew.alloc (.cells #[.int .i64 (y % c)] 3)).heap.size = w3.heap.size + 1 from by simp]; omega
                have b1' := g1.grown hgr g2 (by decide)
                have ht : cs.take (e + 1) = cs.take e ++ [c] := take_snoc hc
                have hend : fRest (cs.take (e + 1)) x = y.tdiv 5 ∧ Box2 33 (w'.setCell ⟨r0, 0, none⟩ (.slice A' n' c')) r0 (.slice A' n' c') (.slice none 0 0) ∧ (w'.setCell ⟨r0, 0, none⟩ (.slice A' n' c')).ownsRow (r0 + 1) 3 1 (.slice A' n' c') (fKey (cs.take (e + 1)) x).length (ints (fKey (cs.take (e + 1)) x)) ∧
                    Below r0 w1 (w'.setCell ⟨r0, 0, none⟩ (.slice A' n' c')) ∧ r0 < (w'.setCell ⟨r0, 0, none⟩ (.slice A' n' c')).heap.size := by
                  rw [ht, fKey_snoc, fRest_snoc, ← hy]
                  refine ⟨rfl, b1'.set0 _, own_box ho' b1' (by decide) _ _, ?_, ?_⟩
                  · exact (g3.grown hgr (by omega) fun j hj => by have := (g2.lt j hj).1; omega).setCell (Nat.le_refl _) _
                  · have := hgr.size; simp [World.setCell]; omega
                have E := Lib.hid hend
                have c0' := b1'.cell0
                have f0' := b1'.frozen 0
                have Hrun := Lib.hid hrun
                have Hy := Lib.hid hy
                have Hc := Lib.hid hc
                obtain ⟨hy3, hy4⟩ := hy2
                have hy5 := tdiv5_bd ⟨hy3, hy4⟩
                obtain ⟨hy6, hy7⟩ := hy5
                have he0 : (0 : Int) ≤ (e : Int) := by omega
                have hed2 : (e : Int) < (dd : Int) := by omega
                clear hrun ho' hgr hy hc hn' g1 g2 g3 g4 b1' ht hend oS
                go_upto_region 20 with (fail)
                go_cut [] (fun wx => wx = w'.setCell ⟨r0, 0, none⟩ (.slice A' n' c'))
                case first =>
                  go_region_law (first | (go_simp; go_at_call 11; refine (Wy.out _).mono ?_; rintro e w2 ⟨rfl, rfl⟩) | (refine step_append_eq (by rfl) (.tmp 74) (.tmp 82) 22 (by rfl) kv (.slice (some ⟨w3.heap.size, 0, none⟩) 1 1) (.slice A' n' c') w' (by rfl) (by rfl) Hrun.out ?_) | fail)
                  all_goals
                    go_wp2_with fail
                    go_meet
                    exact rfl
                case rest =>
                  obtain rfl := hcut
                  go_wp2
                  exact ⟨⟨e + 1, by omega, by go_num, congrArg _ E.out.1.symm, _, E.out.2⟩, by simp [intOf]; omega⟩
              · obtain rfl : e = dd := by omega
                have htk : cs.take e = cs := List.take_of_length_le (by rw [Hcl.out]; exact Nat.le_refl _)
                have s2 := S2.out
                rw [htk] at s2 ⊢
                obtain ⟨y, hy⟩ : ∃ y, y = fRest cs x := ⟨_, rfl⟩
                have hy2 := fRest_bd cs x (by rw [Hcl.out]; exact hdd3) ⟨hx3, hx4⟩
                rw [← hy] at hy2 ⊢
                obtain ⟨hy3, hy4⟩ := hy2
                obtain ⟨K, hK⟩ : ∃ K, K = w3.heap.size := ⟨_, rfl⟩
                have hkK : ∀ b ∈ blk kv, b < K := fun b hb => by rw [hK]; exact (own_blk s2 b hb).2
                have hKr : r0 < K := by rw [hK]; exact s4
                have hKz : K ≤ w3.heap.size := Nat.le_of_eq hK
                have Hy := Lib.hid hy
                have HkK := Lib.hid hkK
                have T2 := Lib.hid s2
                have W201 := Lib.hid (fun (z : Int) (hz : inK .i64 z) (W : World) => lwithin z 201 W hz (by omega) (by omega))
                clear hed htk s2 hy hkK hK S2 oS he
                go_wp2_with fail
                go_loopw [18] (fun j wr => ∃ f : Nat, f ≤ mm ∧ j = .int .i64 f ∧ ∃ mv, Box2 33 wr r0 kv mv ∧ wr.ownsRow (r0 + 1) 3 1 kv (fKey cs x).length (ints (fKey cs x)) ∧ wr.ownsRow K 3 1 mv (fM f y).length (ints (fM f y)) ∧ Below r0 w1 wr ∧ K ≤ wr.heap.size) (fun j _ => mm - (intOf j).toNat)
                case atStart => exact ⟨0, by omega, rfl, _, S1.out, T2.out, World.ownsRow_nil _ _ _ _, S3.out, hKz⟩
                case round =>
                  rename World => w4
                  obtain ⟨f, hf, rfl, mv, s1, s2, s2m, s3, s4'⟩ := hrel
                  clear c3 cS dS s4 hKz
                  have hrw : r0 = w1.heap.size := Hr0.out
                  have sS := (B1.out.below Hb2.out (by exact hz)).below s3 (by omega)
                  have cS := sS.cell0
                  have dS := sS.cell1
                  have c3 := s1.cell0
                  have d3 := s1.cell1
                  have T1 := Lib.hid s1
                  have T2 := Lib.hid s2
                  have T2m := Lib.hid s2m
                  have T3 := Lib.hid s3
                  have hr4 : r0 < w4.heap.size := by omega
                  clear s1 s2 s2m s3 sS hrw
                  by_cases hfm : f < mm
                  · obtain ⟨v', w', hrun, ho', hgr⟩ := append_int w4.drew K mv (fM f y) ((y + 7 * (f : Int)) % 201 - 100) w4.heap.size rfl T2m.out (by rw [fM_len]; omega) (by exact s4')
                    obtain ⟨A', c', hv', -⟩ := own_form ho'
                    obtain ⟨n', hn'⟩ : ∃ n', n' = (fM f y ++ [(y + 7 * (f : Int)) % 201 - 100]).length := ⟨_, rfl⟩
                    rw [← hn'] at hv'
                    subst hv'
                    obtain ⟨z, hz2⟩ : ∃ z, z = y + 7 * (f : Int) := ⟨_, rfl⟩
                    rw [← hz2] at hrun ho' hgr hn'
                    have g1 : Box2 33 (w4.drew.alloc (.cells #[.int .i64 (z % 201 - 100)] 3)) r0 kv mv := T1.out.alloc _
                    have g2 : (w4.drew.alloc (.cells #[.int .i64 (z % 201 - 100)] 3)).ownsRow (r0 + 1) 3 1 kv (fKey cs x).length (ints (fKey cs x)) := T2.out.alloc _
                    have g2m : (w4.drew.alloc (.cells #[.int .i64 (z % 201 - 100)] 3)).ownsRow K 3 1 mv (fM f y).length (ints (fM f y)) := T2m.out.alloc _
                    have g3 : Below r0 w1 (w4.drew.alloc (.cells #[.int .i64 (z % 201 - 100)] 3)) := (below_drewN T3.out 1).alloc (Nat.le_trans (Nat.le_of_lt hKr) (by exact s4')) _
                    have g4 : K ≤ (w4.drew.alloc (.cells #[.int .i64 (z % 201 - 100)] 3)).heap.size := by rw [show (w4.drew.alloc (.cells #[.int .i64 (z % 201 - 100)] 3)).heap.size = w4.heap.size + 1 from by simp]; omega
                    have b1' := g1.grown hgr g2m (by decide)
                    have hend : Box2 33 (w'.setCell ⟨r0, 1, none⟩ (.slice A' n' c')) r0 kv (.slice A' n' c') ∧ (w'.setCell ⟨r0, 1, none⟩ (.slice A' n' c')).ownsRow (r0 + 1) 3 1 kv (fKey cs x).length (ints (fKey cs x)) ∧
                        (w'.setCell ⟨r0, 1, none⟩ (.slice A' n' c')).ownsRow K 3 1 (.slice A' n' c') (fM (f + 1) y).length (ints (fM (f + 1) y)) ∧
                        Below r0 w1 (w'.setCell ⟨r0, 1, none⟩ (.slice A' n' c')) ∧ K ≤ (w'.setCell ⟨r0, 1, none⟩ (.slice A' n' c')).heap.size := by
                      rw [fM_snoc, ← hz2]
                      refine ⟨b1'.set1 _, own_box (g2.kept hgr (own_two HkK.out g2m)) b1' (by decide) _ _, own_box ho' b1' (by decide) _ _, ?_, ?_⟩
                      · exact (g3.grown hgr (by omega) fun j hj => by have := (g2m.lt j hj).1; omega).setCell (Nat.le_refl _) _
                      · have := hgr.size; simp [World.setCell]; omega
                    have E := Lib.hid hend
                    have d3' := b1'.cell1
                    have f3' := b1'.frozen 1
                    have Hrun := Lib.hid hrun
                    have hz3 : -9223372036854775808 ≤ z ∧ z ≤ 9223372036854775807 := by omega
                    have Wz := Lib.hid (W201.out z hz3)
                    obtain ⟨hz4, hz5⟩ := hz3
                    have hz6 : 0 ≤ z % 201 ∧ z % 201 ≤ 200 := by omega
                    obtain ⟨hz7, hz8⟩ := hz6
                    have k1 : IntKind.i64.wrap (7 * (f : Int)) = 7 * (f : Int) := IntWalk.i64_in _ (by omega)
                    have k2 : IntKind.i64.wrap (y + 7 * (f : Int)) = z := by rw [hz2]; exact IntWalk.i64_in _ (by omega)
                    have k3 : IntKind.i64.wrap (z % 201 - 100) = z % 201 - 100 := IntWalk.i64_in _ (by omega)
                    have Hz := Lib.hid hz2
                    clear hrun ho' hgr hn' g1 g2 g2m g3 g4 b1' hend hz2
                    go_upto_region 25 with (fail)
                    go_region_law (first | (go_simp; go_at_call 11; refine (Wz.out _).mono ?_; rintro e w2 ⟨rfl, rfl⟩) | (refine step_append_eq (by rfl) (.tmp 94) (.tmp 101) 22 (by rfl) mv (.slice (some ⟨w4.heap.size, 0, none⟩) 1 1) (.slice A' n' c') w' (by rfl) (by rfl) Hrun.out ?_) | fail)
                    all_goals
                      go_wp2
                      exact ⟨⟨f + 1, by omega, by go_num, _, E.out⟩, by simp [intOf]; omega⟩
                  · obtain rfl : f = mm := by omega
                    have hrw : r0 = w1.heap.size := Hr0.out
                    have hme1 : mv.oneCell' = true := own_slice T2m.out
                    obtain ⟨A', c', hv', -⟩ := own_form T2m.out
                    obtain ⟨A2, c2, hv2, -⟩ := own_form T2.out
                    obtain ⟨v', w', hrun, hR', hb'⟩ := append_rowX w1 w4 wc.heap.size _ _ (fRow cs f x) kv mv w4.heap.size K rfl HR.out (by rw [← Hr0.out]; exact T3.out) (by rw [← Hr0.out]; exact T2.out.mono (by omega)) (by rw [fRow, ← Hy.out]; exact T2m.out) (by omega) HkK.out (own_slice T2.out) hme1 (by simp; omega) hz1
                    rw [← fRows_snoc Hx.out] at hR'
                    have Hrun := Lib.hid hrun
                    have HR' := Lib.hid hR'
                    have Hb' := Lib.hid ((Hb2.out.trans (T3.out.mono (by omega))).trans hb')
                    clear hrun hR' hb' hme1 hrw
                    subst hv'
                    subst hv2
                    go_wp2_with (at_builtin; have _t := Hrun; refine wpList_append_eq rfl (.tmp 104) (.tmp 106) 25 rfl _ _ _ _ rfl rfl Hrun.out ?_; clear _t Hrun)
                    exact ⟨⟨k + 1, by omega, by omega, by go_num, HR'.out, Hb'.out⟩, by simp [intOf]; omega⟩
          · have hfin : (ns.take k).map (fRow cs mm) = fRows (fCards dims cards) (fMeas me) ns := by
              rw [← Hcs.out, ← Hmm.out, fRows]
              have hnl : ns.length = m := HD.out.len
              by_cases hk40 : k = 40
              · rw [hk40]
              · obtain rfl : k = m := by omega
                rw [List.take_of_length_le (Nat.le_of_eq hnl), List.take_of_length_le (by omega)]
            have hR := HR.out
            rw [hfin] at hR
            obtain ⟨hR1⟩ : Nonempty (RowsX w1 wc.heap.size _ (fRows (fCards dims cards) (fMeas me) ns)) := ⟨hR⟩
            have sS := B1.out.below Hb2.out (by exact hz)
            have cS := sS.cell0
            have dS := sS.cell1
            have s0 := B0.out.below Hb2.out (by omega)
            have t0 := (s0.set0 (.slice (some ⟨g, 0, none⟩) dd c1)).set1 (.int .i64 mm)
            have e0 := t0.cell0
            have e1 := t0.cell1
            have c0 := s0.cell0
            have d0 := s0.cell1
            have f0 := s0.frozen 0
            have f1 := s0.frozen 1
            have o2 := own_below O1.out Hb2.out (Nat.le_refl _)
            have hon : Only w.heap.size w1 ((w1.setCell ⟨w.heap.size, 0, none⟩ (.slice (some ⟨g, 0, none⟩) dd c1)).setCell ⟨w.heap.size, 1, none⟩ (.int .i64 mm)) := ((Only.refl _ _).setCell 0 _).setCell 1 _
            have hres : FactsPost dims cards me ns w (.returned (.tuple #[.agg #[.slice (some ⟨g, 0, none⟩) dd c1, .int .i64 mm], u13])) ((w1.setCell ⟨w.heap.size, 0, none⟩ (.slice (some ⟨g, 0, none⟩) dd c1)).setCell ⟨w.heap.size, 1, none⟩ (.int .i64 mm)) := by
              refine ⟨_, _, wc.heap.size, by rw [← Hmm.out], ?_, fun j hj => (own_blk O1.out j hj).2, by omega, hR.only hon (by omega), (X.out.trans (Hb2.out.mono X.out.size)).trans (hon.below (Nat.le_refl _) (by omega))⟩
              rw [← Hdd.out, ← Hcs.out]
              exact (own_only o2 hon (by omega)).mono (by omega)
            have R := Lib.hid hres
            have E0 := Lib.hid e0
            have E1 := Lib.hid e1
            have hout : k < m ∧ 40 ≤ k ∨ ¬ (k < m) := by omega
            clear hfin hR hR1 sS s0 o2 hlt t0 e0 e1 hon hres
            rcases hout with ⟨ho1, ho2⟩ | ho
            all_goals
              go_wp2
              have e0 := E0.out
              have e1 := E1.out
              exact bodyPost_ret (v := .tuple #[.agg #[.slice (some ⟨g, 0, none⟩) dd c1, .int .i64 mm], u13]) (by simp [results, Try.results6, go_sem, e0, e1]) rfl R.out
end Go.Proofs.Ytejjbbomkedpcaa
