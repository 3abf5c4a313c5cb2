/- Package sorts: Orders of a plan that is right. -/
import Derived.Test.YtjllmladhjbnaaaGreatDoorListed
import Derived.Test.YtjllmladhjbnaaaGreatDoorBackw
import Derived.Test.YtjllmladhjbnaaaGreatDoorConc
import Derived.Test.YtjllmladhjbnaaaGreatDoorSoC
import Derived.Test.YtjllmladhjbnaaaGreatDoorEdF
import Derived.Test.YtjllmladhjbnaaaGreatDoorRegI
namespace Go.Proofs.YtjllmladhjbnaaaGreatDoor
open Go.RowKit Go.Shelf
attribute [local go_sem] Oper.semAt_some
/-- As it was, but that nothing panics. -/
def noP (Q : Exit → Act → World → Prop) : Exit → Act → World → Prop
  | .panic _, _, _ => False
  | e, a, w => Q e a w
theorem noP_le {Q : Exit → Act → World → Prop} : ∀ {e : Exit} {a : Act} {w : World}, noP Q e a w → Q e a w := by
  intro e a w h
  cases e <;> first | exact h | exact h.elim
theorem noP_normal {Q : Exit → Act → World → Prop} {a : Act} {w : World} (h : Q .normal a w) : noP Q .normal a w := h
theorem region_J {F : Fence} {n : Nat} {P : Program} {ops : Array Oper} {Q : Exit → Act → World → Prop} {S : World → Prop} {id : Nat} {a : Act} {w : World} (hm : P.follows .mixedOrders = true) (hS : S w.drew) (h : S w.drew → anyI F n P .any ops (noP Q) S ops.size (Array.replicate ops.size false) a w.drew) : (Code.region id ops true).wpIn F n P Q a w :=
  wpIn_mono (region_I hm hS h) fun _ _ _ h => noP_le h
theorem keeps_putObj {W : World} {D : Nat} {o : Obj} (o' : Obj) (h : W.heap[D]? = some o) (hc : o.isCells = false) : Keeps W (W.putObj D o') := fun p v hp => by
  obtain ⟨o2, h2, h3⟩ := cells_of_cell hp
  have hne : p.block ≠ D := fun e => by rw [e, h] at h2; injection h2 with h2; subst h2; rw [hc] at h3; cases h3
  rw [World.cell?_of_block (World.putObj_heap_other hne)]
  exact hp
theorem OM.putObj {B D : Nat} {W : World} {v : Value} {M : List (List Int)} {us : List Value} {o : Obj} (o' : Obj) (h : OM B W v M us) (ho : W.heap[D]? = some o) (hc : o.isCells = false) : OM B (W.putObj D o') v M us :=
  ⟨ownsRow_putObj h.own _ ho hc, fun j u r a b => ⟨ownsRow_putObj (h.row j u r a b).1 _ ho hc, (h.row j u r a b).2⟩, h.ap⟩
/-- Rows laid so far. -/
def ordK (k N : Nat) : List (List Int) := (List.range N).map fun (s : Nat) => if s < k then dimsL (s : Int) else []
theorem ordK_len (k N : Nat) : (ordK k N).length = N := by simp [ordK]
theorem ordK_zero (N : Nat) : ordK 0 N = List.replicate N [] := by
  apply List.ext_getElem
  · simp [ordK]
  · intro i h1 h2; simp [ordK]
theorem ordK_at {k N : Nat} (h : k < N) : (ordK k N)[k]? = some [] := by
  unfold ordK
  rw [List.getElem?_map, List.getElem?_range h]; simp
theorem ordK_set {k N : Nat} : (ordK k N).set k (dimsL (k : Int)) = ordK (k + 1) N := by
  apply List.ext_getElem?
  intro i
  by_cases hi : i < N
  · by_cases hik : k = i
    · subst hik
      rw [List.getElem?_set_self (by rw [ordK_len]; exact hi)]
      unfold ordK
      rw [List.getElem?_map, List.getElem?_range hi]; simp
    · rw [List.getElem?_set_ne hik]
      unfold ordK
      rw [List.getElem?_map, List.getElem?_map, List.getElem?_range hi]
      simp only [Option.map_some]
      congr 1
      by_cases h1 : i < k
      · rw [if_pos h1, if_pos (by omega)]
      · rw [if_neg h1, if_neg (by omega)]
  · rw [List.getElem?_eq_none (by simp [ordK]; omega), List.getElem?_eq_none (by simp [ordK]; omega)]
theorem ordK_all (es : List Ed) (N : Nat) : ordK N N = ordTo es es.length N := by
  rw [ordTo_start]
  unfold ordK
  apply List.map_congr_left
  intro s hs
  rw [if_pos (List.mem_range.1 hs)]
theorem sub_bd : ∀ p s : Fin 16, 0 ≤ subI (p.val : Int) (s.val : Int) ∧ subI (p.val : Int) (s.val : Int) ≤ 15 := by decide +kernel
theorem flat2 (r ds : List Int) : [r, ds].flatten = r ++ ds := by simp
theorem dims_len (s : Int) : (dimsL s).length ≤ 4 := dimsL_le s
theorem rows_orders {d : Nat} {es : List Ed} (h : RightP d es) (h1 : 1 ≤ d) (h4 : d ≤ 4) : rowsOf d (ordTo es 0 (2 ^ d)) = ordsM es := by
  unfold rowsOf ordsM
  rw [← h.sets, List.map_map]
  apply List.map_congr_left
  intro e he
  have hb := sets_bd d h1 h4 _ (h.mem he)
  have hf : fullB d = ((2 ^ d : Nat) : Int) - 1 := by unfold fullB; push_cast; rfl
  show (ordTo es 0 (2 ^ d)).getD e.s.toNat [] = ordM es e.s
  rw [List.getD_eq_getElem?_getD, ordTo_at es 0 (by omega), Int.toNat_of_nonneg hb.1, ordAt_zero]; rfl
/-- What stands while edges are gone through from behind. -/
def OrdI (w : World) (A : Option Addr) (go bo pb k c : Nat) (es : List Ed) (m : Nat) (W : World) : Prop :=
  (∃ us, OM w.heap.size W (.slice (some ⟨go, 0, none⟩) k k) (ordTo es m k) us) ∧ (Boxed W bo 65 (.slice (some ⟨go, 0, none⟩) k k) ∧ Boxed W pb 30 (.slice A k c)) ∧ Below w.heap.size w W
theorem OrdI.alloc {w : World} {A : Option Addr} {go bo pb k c : Nat} {es : List Ed} {m : Nat} {W : World} (h : OrdI w A go bo pb k c es m W) (o : Obj) : OrdI w A go bo pb k c es m (W.alloc o) :=
  ⟨h.1.elim fun us hu => ⟨us, hu.below (below_box W o)⟩, ⟨h.2.1.1.alloc _, h.2.1.2.alloc _⟩, h.2.2.alloc h.2.2.size _⟩
theorem OrdI.put {w : World} {A : Option Addr} {go bo pb k c : Nat} {es : List Ed} {m : Nat} {W : World} (h : OrdI w A go bo pb k c es m W) {l : Nat} {o : Obj} (o' : Obj) (h1 : bo < l) (h2 : pb < l) (h3 : w.heap.size ≤ l) (ho : W.heap[l]? = some o) (hc : o.isCells = false) : OrdI w A go bo pb k c es m (W.putObj l o') :=
  ⟨h.1.elim fun us hu => ⟨us, hu.putObj o' ho hc⟩, ⟨(World.putObj_heap_other (by omega)).trans h.2.1.1, (World.putObj_heap_other (by omega)).trans h.2.1.2⟩, h.2.2.trans (below_put _ h3 ho)⟩
set_option maxRecDepth 100000 in
set_option maxHeartbeats 8000000 in
theorem orders_any (A : Option Addr) (n c d : Nat) (es : List Ed) (w : World) (hE : Edgs w A n es) (hnc : n ≤ c) (hr : RightP d es) (h1 : 1 ≤ d) (h4 : d ≤ 4) (hT : Tab w) (hw1 : 1 < w.heap.size) :
    Calls Tryz.prog 14 #[.slice A n c, .int .i64 d] w fun e w' => ∃ A' c', e = .returned (.slice A' n c') ∧ MatC w' A' n (ordsM es) ∧ Below w.heap.size w w' := by
  refine callsIn_wide (n := 9).1 ?_
  have hel := hE.1
  have hn : n = 2 ^ d := by rw [← hel, ← setsL_len d h1 h4, ← hr.sets, List.length_map]
  have n16 := pow_16 d h4
  rw [← hn] at n16
  have HR := Lib.hid (right_any A n c d es w hE hnc (by omega) h1 h4 hT hw1)
  rw [(plan_iff h1 h4 es).2 hr] at HR
  have HRP := Lib.hid hr
  have HE := Lib.hid hE
  have HT := Lib.hid hT
  have HN := Lib.hid hn
  clear hr hE hT hn
  refine callsIn_of_wp_marks Tryz.func14 rfl trivial ?_ rfl
  simp only [Tryz.ntmps14, List.size_toArray, List.length_cons, List.length_nil, Nat.reduceAdd, Nat.reduceSub, Array.replicate_succ, Array.replicate_zero, List.push_toArray, List.append_toArray, List.nil_append, List.cons_append]
  gi_wp2_with (refine ⟨trivial, ?_⟩; gi_at_call 11; refine (callsIn_wide.2 HR.out).mono ?_; rintro e w1 ⟨rfl, hb1⟩; have HB1 := Lib.hid hb1; have HT1 := HT.out.below hb1 hw1; have hw11 := Nat.lt_of_lt_of_le hw1 hb1.size; have HNS := Lib.hid (newS_any d w1 h1 h4 HT1 hw11); rw [← HN.out] at HNS; clear hb1)
  refine ⟨trivial, (callsIn_wide.2 HNS.out).mono ?_⟩
  rintro e w2 ⟨go, us0, rfl, hom, hgo, hb2⟩
  have hb12 := HB1.out.trans (hb2.mono HB1.out.size)
  rw [← ordK_zero] at hom
  have hbo := Boxed.new w2 65 (.slice (some ⟨go, 0, none⟩) n n)
  have hb3 := below_box w2 (.cells #[.slice (some ⟨go, 0, none⟩) n n] 65)
  have hz3 : (w2.alloc (.cells #[.slice (some ⟨go, 0, none⟩) n n] 65)).heap.size = w2.heap.size + 1 := by simp
  have hom3 := (⟨own_mono hom.own HB1.out.size, fun j u r a b => (hom.row j u r a b).mono HB1.out.size, hom.ap⟩ : OM w.heap.size w2 _ _ _).below hb3
  obtain ⟨bo, hboe⟩ : ∃ b, b = w2.heap.size := ⟨_, rfl⟩
  have hbs : w.heap.size ≤ bo := by rw [hboe]; exact hb12.size
  have hgos : w.heap.size ≤ go := Nat.le_trans HB1.out.size hgo
  have hb13 : Below w.heap.size w (w2.alloc (.cells #[.slice (some ⟨go, 0, none⟩) n n] 65)) := hb12.trans (hb3.mono hb12.size)
  rw [← hboe] at hbo hz3
  have hgl : go < w2.heap.size := (hom.own.lt go rfl).2
  have hgb : go ≠ bo := by rw [hboe]; omega
  clear hb2 hom hb12
  gi_wp2
  rw [← hboe]
  generalize w2.alloc (.cells #[.slice (some ⟨go, 0, none⟩) n n] 65) = w3 at hbo hb3 hz3 hom3 hb13 ⊢
  have HBO3 := Lib.hid hbo
  have HOM3 := Lib.hid hom3
  have HB13 := Lib.hid hb13
  have cbo := hbo.cell
  have HBE := Lib.hid hboe
  clear hb3 hom3 hb13 hboe hbo hgl
  gi_wp2
  gi_loopw [18] (fun i wr => ∃ (k : Nat) (us : List Value), i = .int .i64 k ∧ k ≤ n ∧ OM w.heap.size wr (.slice (some ⟨go, 0, none⟩) n n) (ordK k n) us ∧ Boxed wr bo 65 (.slice (some ⟨go, 0, none⟩) n n) ∧ Below w.heap.size w wr) (fun i _ => n - (intOf i).toNat)
  case atStart => exact ⟨0, _, rfl, Nat.zero_le _, HOM3.out, HBO3.out, HB13.out⟩
  case round =>
    obtain ⟨k, us, rfl, hk, hom, hbx, hb⟩ := hrel
    rename World => wr
    have HO := Lib.hid hom
    have HX := Lib.hid hbx
    have HB := Lib.hid hb
    have hz := hb.size
    have cb := hbx.cell
    clear hom hbx hb HOM3 HBO3 HB13 cbo
    by_cases hkn : k < n
    · have HRI := Lib.hid (rising_any (k : Int) wr.drew (by omega) (by omega))
      have k0 : (0 : Int) ≤ (k : Int) := by omega
      have k1 : (k : Int) < (n : Int) := by omega
      gi_wp2
      refine region_J (S := fun W => W.cell? ⟨bo, 0, none⟩ = some (.slice (some ⟨go, 0, none⟩) n n)) (by kernel_rfl) cb (fun hHeld => ?_)
      refine anyI_take (i := 0) (v := ?va0) (by kernel_rfl) rfl (by kernel_rfl) (by kernel_rfl) (by kernel_rfl) (fun _ _ _ h => h) (fun _ => rfl) (Or.inl ⟨by rfl, ?ya0⟩) hHeld ?ra0
      case ya0 => (intro W hW; obtain hW0 := hW; go_simp; first | done | with_reducible rfl)
      try simp only [List.getElem_toArray, List.getElem_cons_zero, Act.put, List.setIfInBounds_toArray, List.set_cons_zero, List.set_cons_succ]
      refine anyI_take (i := 1) (v := ?va1) (by kernel_rfl) rfl (by kernel_rfl) (by kernel_rfl) (by kernel_rfl) (fun _ _ _ h => h) (fun _ => rfl) (Or.inl ⟨by rfl, ?ya1⟩) hHeld ?ra1
      case ya1 => (intro W hW; obtain hW0 := hW; go_simp; first | done | with_reducible rfl)
      try simp only [List.getElem_toArray, List.getElem_cons_succ, List.getElem_cons_zero, Act.put, List.setIfInBounds_toArray, List.set_cons_zero, List.set_cons_succ]
      refine anyI_take (i := 2) (v := ?va2) (by kernel_rfl) rfl (by kernel_rfl) (by kernel_rfl) (by kernel_rfl) (fun _ _ _ h => h) (fun _ => rfl) (Or.inl ⟨by rfl, ?ya2⟩) hHeld ?ra2
      case ya2 => (intro W hW; obtain hW0 := hW; go_simp; first | done | with_reducible rfl)
      try simp only [List.getElem_toArray, List.getElem_cons_succ, List.getElem_cons_zero, Act.put, List.setIfInBounds_toArray, List.set_cons_zero, List.set_cons_succ]
      refine anyI_ready (rs := [3]) (by kernel_rfl) (by simp) ?_
      refine AllI.cons (by kernel_rfl) rfl (by rfl) (fun K hK => ?_) AllI.nil
      refine ⟨fun _ _ => trivial, ?_⟩
      go_simp
      refine (callsIn_wide.2 HRI.out).mono ?_
      rintro e w5 ⟨v5, rfl, ho5, hb5⟩
      have k5 := Keeps.of_below hb5
      obtain ⟨P5, c5, rfl, -, -, -, -⟩ := ho5.form
      have hom5 := (HO.out.below (Below.refl wr.heap.size wr).drew).below hb5
      obtain ⟨g9, c9, u9, e9, -, -, hu9, hcu9, hfu9, -, -⟩ := hom5.at_ (ordK_at hkn)
      injection e9 with e9 e98 e99
      injection e9 with e9
      injection e9 with e9
      subst e9
      clear e98 e99
      refine hK.out _ _ (k5 _ _ cb) (fun hHeld => ?_)
      clear hK K
      try simp only [List.getElem_toArray, List.getElem_cons_succ, List.getElem_cons_zero, Act.put, List.setIfInBounds_toArray, List.set_cons_zero, List.set_cons_succ]
      refine anyI_take (i := 4) (v := ?va4) (by kernel_rfl) rfl (by kernel_rfl) (by kernel_rfl) (by kernel_rfl) (fun _ _ _ h => h) (fun _ => rfl) (Or.inl ⟨by rfl, ?ya4⟩) hHeld ?ra4
      case ya4 => (intro W hW; obtain hW0 := hW; go_simp; first | done | with_reducible rfl)
      try simp only [List.getElem_toArray, List.getElem_cons_succ, List.getElem_cons_zero, Act.put, List.setIfInBounds_toArray, List.set_cons_zero, List.set_cons_succ]
      have hset := hom5.setRow (i := k) (co := n) (by rw [ordK_len]) (ho5.mono hz) (fun j u' _ hj b hb => HO.out.apart_new ho5 (Nat.le_refl _) j u' hj b hb)
      rw [ordK_set] at hset
      have HSET := Lib.hid hset
      have hx5 : Boxed w5 bo 65 (.slice (some ⟨go, 0, none⟩) n n) := (hb5.block _ HX.out.lt).trans HX.out
      have hx6 : Boxed (w5.setCell ⟨go, k, none⟩ (.slice P5 (dimsL (k : Int)).length c5)) bo 65 (.slice (some ⟨go, 0, none⟩) n n) := (Below.heap_setCell _ _ _ _ (show bo ≠ go from fun e => hgb e.symm)).trans hx5
      have HX6 := Lib.hid hx6
      have HB6 := Lib.hid (((HB.out.drew.trans (hb5.mono hz))).setCell (p := ⟨go, k, none⟩) hgos (.slice P5 (dimsL (k : Int)).length c5))
      clear hset hx5 hx6 hom5 ho5 hb5 k5
      refine anyI_ready (rs := [5]) (by kernel_rfl) (by simp) ?_
      refine AllI.cons (by kernel_rfl) rfl (by rfl) (fun K hK => ?_) AllI.nil
      refine ⟨fun _ _ => trivial, ?_⟩
      go_simp
      refine hK.out _ _ (HX6.out.cell) (fun hHeld => ?_)
      clear hK K
      try simp only [List.getElem_toArray, List.getElem_cons_succ, List.getElem_cons_zero, Act.put, List.setIfInBounds_toArray, List.set_cons_zero, List.set_cons_succ]
      refine anyI_done (by kernel_rfl) (noP_normal ?_) _
      gi_wp2
      go_roundw
      case rel => exact ⟨k + 1, _, by go_num, by omega, HSET.out, HX6.out, HB6.out⟩
      case measure => simp [intOf]; omega
    · obtain rfl : k = n := by omega
      have hom := HO.out
      rw [ordK_all es k, hel] at hom
      have HBK := Lib.hid (backward_any A k c wr)
      have hx4 := HX.out.alloc (.cells #[.slice A k c] 30)
      have hp4 := Boxed.new wr 30 (.slice A k c)
      have hb4 := below_box wr (.cells #[.slice A k c] 30)
      have hz4 : (wr.alloc (.cells #[.slice A k c] 30)).heap.size = wr.heap.size + 1 := by simp
      have hom4 := hom.below hb4
      have hb04 : Below w.heap.size w (wr.alloc (.cells #[.slice A k c] 30)) := HB.out.trans (hb4.mono hz)
      obtain ⟨pb, hpb⟩ : ∃ b, b = wr.heap.size := ⟨_, rfl⟩
      have hbop : bo < pb := by rw [hpb]; exact HX.out.lt
      have hgop : go < pb := by rw [hpb]; exact (hom.own.lt go rfl).2
      rw [← hpb] at hp4 hz4
      gi_wp2_with (refine ⟨trivial, ?_⟩; gi_at_call 33; refine (callsIn_wide.2 HBK.out).mono ?_; rintro e w4 ⟨rfl, hw4⟩)
      rw [← hpb]
      clear hw4 hom hb4
      generalize wr.alloc (.cells #[.slice A k c] 30) = w4 at hx4 hp4 hz4 hom4 hb04 ⊢
      have HPB := Lib.hid hpb
      clear hpb
      have hw4 := hb04.size
      have hw4 := hb04.size
      have hw4 := hb04.size
      have hw4 := hb04.size
      have hw4 := hb04.size
      have hw4 := hb04.size
      have hw4 := hb04.size
      refine range_goesX rfl (by omega) (gf := 62) (lb := #[.pointer (some ⟨pb, 0, none⟩)]) rfl trivial (enters_of Tryz.func62 (by kernel_rfl) rfl)
        (encs := backV es k) (n₀ := w.heap.size) (N := k) (S := fun ys => ys = List.range k) (fun pre x => x = pre.length)
        (fun pre W => OrdI w A go bo pb k c es (k - pre.length) W)
        hw4 (fun _ => rfl)
        (fun l J W hW hJI hY h0 => back1_any 8 (by omega) l pb w.heap.size k c A es J W (fun pre W' h => ⟨(hJI pre W' h).2.1.2.cell, HE.out.keep (Keeps.of_below (hJI pre W' h).2.2)⟩) (by omega) hY h0)
        ⟨fun pre W o h => h.alloc o, fun pre W l o o' h hl ho hc => h.put o' (by omega) (by omega) (by omega) ho hc⟩
        ⟨⟨_, hom4⟩, ⟨hx4, hp4⟩, hb04⟩
        (fun pre x a W => (∃ be : Nat, a = { tmps := #[.slice A k c, .int .i64 d, undef, undef, .slice none 0 0, .pointer (some ⟨bo, 0, none⟩), u6, undef, .pointer (some ⟨be, 0, none⟩), undef, .slice A k c, .int .i64 d, .bool true, .bool false, .int .i64 d, .slice (some ⟨go, 0, none⟩) k k, .slice (some ⟨go, 0, none⟩) k k, .int .i64 k, .int .i64 k, .bool false, u20, u21, u22, u23, u24, u25, u26, .slice A k c, .func (.func 62) #[] #[.pointer (some ⟨pb, 0, none⟩)], .int .i64 ((k : Int) - 1 - (x : Int)), eV (es.getD (k - 1 - x) zE), undef, undef, undef, undef, undef, undef, undef, undef, undef, undef, undef, undef, undef, undef, undef, undef, undef, undef, undef, undef, undef, undef, undef], defers := [] } ∧ W.heap[be]? = some (.cells #[.int .i64 (es.getD (k - 1 - x) zE).s, .int .i64 (es.getD (k - 1 - x) zE).p, .bool (es.getD (k - 1 - x) zE).sc] 42 (0, 0))) ∧ OrdI w A go bo pb k c es (k - pre.length) W ∧ x = pre.length ∧ pre.length < k)
        (fun pre x a W l o o' h hl ho hc => ⟨h.1.elim fun be hb => ⟨be, hb.1, (World.putObj_heap_other (fun e => by rw [e, ho] at hb; have := hb.2; injection this with this; subst this; cases hc)).trans hb.2⟩, h.2.1.put o' (by omega) (by omega) (by omega) ho hc, h.2.2⟩) ?assign ?body ?done
      case assign =>
        rintro l pre x W K hI hlen hx hK
        subst hx
        unfold backV
        obtain ⟨e, he⟩ : ∃ e, e = es.getD (k - 1 - pre.length) zE := ⟨_, rfl⟩
        rw [← he] at hK ⊢
        unfold eV at hK ⊢
        have HK := Lib.hid hK
        have HI := Lib.hid hI
        clear hK hI he
        gi_wp2
        exact HK.out _ _ (KeepsOthers.mk (by simp) fun j o hj _ => (Below.heap_alloc _ _ _ (Array.getElem?_eq_some_iff.1 hj).1).trans hj) ((Below.refl _ W).alloc HI.out.2.2.size _) ⟨⟨W.heap.size, rfl, heap_alloc_new W _⟩, HI.out.alloc _, trivial, hlen⟩
      case body =>
        rintro l pre x a1 W ⟨⟨be, rfl, hbe⟩, hI, hx, hlen⟩
        subst hx
        obtain ⟨j, hj⟩ : ∃ j, j = k - 1 - pre.length := ⟨_, rfl⟩
        obtain ⟨e, he⟩ : ∃ e, es[j]? = some e := ⟨_, List.getElem?_eq_getElem (by omega)⟩
        have hge : es.getD (k - 1 - pre.length) zE = e := by rw [← hj, List.getD_eq_getElem?_getD, he]; rfl
        rw [hge] at hbe ⊢
        have hkl : k - pre.length = j + 1 := by omega
        have hkl2 : k - (pre ++ [pre.length]).length = j := by rw [List.length_append]; simp; omega
        rw [hkl] at hI
        have hem := List.mem_of_getElem? he
        have hc0 : W.cell? ⟨be, 0, none⟩ = some (.int .i64 e.s) := cell_of_row W be 0 _ _ (0, 0) hbe
        have hc1 : W.cell? ⟨be, 1, none⟩ = some (.int .i64 e.p) := cell_of_row W be 1 _ _ (0, 0) hbe
        have hc2 : W.cell? ⟨be, 2, none⟩ = some (.bool e.sc) := cell_of_row W be 2 _ _ (0, 0) hbe
        obtain ⟨sc, hsc⟩ : ∃ sc, sc = e.sc := ⟨_, rfl⟩
        rw [← hsc] at hc2
        unfold eV
        cases sc with
        | false =>
          have hsk := ordTo_skip (N := k) he hsc.symm
          have HF := Lib.hid (show OrdI w A go bo pb k c es (k - (pre ++ [pre.length]).length) W by rw [hkl2]; unfold OrdI at hI ⊢; rw [hsk]; exact hI)
          clear hI hsk he hge hem hbe hsc
          gi_wp2
          exact ⟨KeepsOthers.refl _, Below.refl _ _, HF.out⟩
        | true =>
          obtain ⟨hpar, hlv⟩ := HRP.out.scan h1 h4 hem hsc.symm
          have hss := HRP.out.mem hem
          have hsp := (par_lvl d h1 h4 _ hss _ hpar).2
          obtain ⟨s0, s1⟩ := sets_bd d h1 h4 _ hss
          obtain ⟨p0, p1⟩ := sets_bd d h1 h4 _ hsp
          have hfb : fullB d = (k : Int) - 1 := by unfold fullB; rw [HN.out]; push_cast; rfl
          rw [hfb] at s1 p1
          have hset := ordTo_set HRP.out h1 h4 (N := k) he hsc.symm
          have hdone := ordAt_done HRP.out h1 h4 he
          have hlen1 := par_one d h1 h4 _ hss _ hpar
          have hol := ordM_len HRP.out h1 h4 e.s
          have hol4 := dims_len e.s
          obtain ⟨s, hse⟩ : ∃ s : Nat, e.s = (s : Int) := ⟨e.s.toNat, by omega⟩
          obtain ⟨p, hpe⟩ : ∃ p : Nat, e.p = (p : Int) := ⟨e.p.toNat, by omega⟩
          have hsub := sub_bd ⟨p, by omega⟩ ⟨s, by omega⟩
          dsimp only at hsub
          have hbeg : be ≠ go := fun e0 => by
            obtain ⟨⟨us1, hom⟩, -, -⟩ := hI
            rcases hom.own.2 with ⟨e1, _⟩ | ⟨gg, cap, cur, e1, _, e2, _⟩
            · cases e1
            · injection e1 with e1 _ _
              injection e1 with e1
              injection e1 with e1
              subst e1
              rw [← e0, hbe] at e2
              injection e2 with e2
              injection e2 with _ e3 _
              exact absurd e3 (by decide)
          have HBEG := Lib.hid hbeg
          have hne : s ≠ p := fun h => by rw [hpe, hse, h] at hlv; omega
          rw [hse] at hc0 hset hdone hlen1 hol hol4
          rw [hpe] at hc1 hset hlen1
          rw [Int.toNat_natCast] at hset
          have sk : s < k := by omega
          have pk : p < k := by omega
          obtain ⟨⟨us1, hom⟩, ⟨hbo, hpb2⟩, hb⟩ := hI
          have hrow := ordTo_at es (j + 1) sk
          rw [hdone] at hrow
          obtain ⟨g9, c9, u9, e9, -, -, hu9, hcu9, -, hru9, -⟩ := hom.at_ hrow
          injection e9 with e9 e98 e99
          injection e9 with e9
          injection e9 with e9
          subst e9
          obtain ⟨r, hrr⟩ : ∃ r, r = ordM es (s : Int) := ⟨_, rfl⟩
          rw [← hrr] at hset hol hru9
          obtain ⟨P9, c9', rfl, -, -, hn9, -⟩ := hru9.form
          obtain ⟨ds, hds⟩ : ∃ z, z = dimsL (subI (p : Int) (s : Int)) := ⟨_, rfl⟩
          have hri := rising_any (subI (p : Int) (s : Int)) W hsub.1 hsub.2
          rw [← hds] at hri hset hlen1
          have hr4 : r.length ≤ 4 := by omega
          have hd1 : 1 ≤ ds.length := by omega
          have hd4 : ds.length ≤ 4 := by omega
          clear hol hlen1 hol4
          have hsi : subI (p : Int) (s : Int) = bits .andNot .i64 (p : Int) (s : Int) := rfl
          rw [hsi] at hri
          have HRI := Lib.hid hri
          have HOM := Lib.hid hom
          have HBO := Lib.hid hbo
          have HPB2 := Lib.hid hpb2
          have HBW := Lib.hid hb
          have HSET := Lib.hid hset
          have HN9 := Lib.hid hn9
          have HKL2 := Lib.hid hkl2
          have cbo := hbo.cell
          have hzW := hb.size
          have z0 : (0 : Int) ≤ (s : Int) := by omega
          have z1 : (s : Int) < (k : Int) := by omega
          have z2 : (0 : Int) ≤ (p : Int) := by omega
          have z3 : (p : Int) < (k : Int) := by omega
          clear hom hbo hpb2 hb hset hdone hrow hu9 hru9 hn9 hri hsi hsub hse hpe hge he hem hss hsp hpar hlv hfb hkl hkl2 hbeg s0 s1 p0 p1 e98 e99 hrr hds hsc hbe
          gi_wp2_with (refine ⟨trivial, ?_⟩; refine (CallsIn.inRound l (callsIn_wide.2 HRI.out)).mono ?_; rintro e w5 ⟨v5, rfl, ho5, hb5⟩; have k5 := Keeps.of_below hb5)
          obtain ⟨P5, c5, rfl, -, -, hn5, -⟩ := ho5.form
          obtain ⟨w6, hw6⟩ : ∃ w6, w6 = (w5.alloc (.cells #[.slice P9 r.length c9', .slice P5 ds.length c5] 22)).drew := ⟨_, rfl⟩
          have hb56 : Below w5.heap.size w5 w6 := by rw [hw6]; exact ((Below.refl _ w5).alloc (Nat.le_refl _) _).drew
          have hbW6 : Below W.heap.size W w6 := hb5.trans (hb56.mono hb5.size)
          have kW6 := Keeps.of_below hbW6
          have k56 := Keeps.of_below hb56
          have hcl : ∀ i u, (#[Value.slice P9 r.length c9', .slice P5 ds.length c5] : Array Value)[i]? = some u → w6.cell? ⟨w5.heap.size, i, none⟩ = some u := fun i u hu => by
            rw [hw6, show (w5.alloc (.cells #[.slice P9 r.length c9', .slice P5 ds.length c5] 22)).drew.cell? ⟨w5.heap.size, i, none⟩ = #[Value.slice P9 r.length c9', .slice P5 ds.length c5][i]? from cell_of_row (w5.alloc (.cells #[.slice P9 r.length c9', .slice P5 ds.length c5] 22)) _ _ _ 22 (0, 0) (heap_alloc_new w5 _)]
            exact hu
          have hmat : Mat w6 (some ⟨w5.heap.size, 0, none⟩) 2 [r, ds] := by
            refine ⟨rfl, fun _ => ⟨_, rfl, fun i r' hr' => ?_⟩⟩
            rw [add0]
            match i, hr' with
            | 0, hr' =>
              simp at hr'
              subst hr'
              exact ⟨P9, c9', hcl 0 _ rfl, HN9.out.keep kW6⟩
            | 1, hr' =>
              simp at hr'
              subst hr'
              exact ⟨P5, c5, hcl 1 _ rfl, hn5.keep k56⟩
            | i + 2, hr' => simp at hr'
          have htot : totR [r, ds] 2 = r.length + ds.length := by simp [totR]
          have hcc := concat_any (some ⟨w5.heap.size, 0, none⟩) 2 2 [r, ds] w6 hmat (by rw [htot]; omega) (by rw [htot]; omega) (by omega)
          rw [flat2] at hcc
          have HCC := Lib.hid hcc
          have HAL := Lib.hid (And.intro (kW6 _ _ cbo) (And.intro (kW6 _ _ hc0) (And.intro (kW6 _ _ hc1) (kW6 _ _ hcu9))))
          have HW6 := Lib.hid hw6
          have HBW6 := Lib.hid hbW6
          have q0 := k5 _ _ cbo
          have q1 := k5 _ _ hc0
          have q2 := k5 _ _ hc1
          have q3 := k5 _ _ hcu9
          clear hcc hw6 hb56 hbW6 kW6 k56 hcl hmat htot ho5 hb5 k5 cbo hc0 hc1 hc2 hcu9 hn5
          gi_wp2
          refine region_J (S := fun W' => W'.cell? ⟨bo, 0, none⟩ = some (.slice (some ⟨go, 0, none⟩) k k) ∧ W'.cell? ⟨be, 0, none⟩ = some (.int .i64 s) ∧ W'.cell? ⟨be, 1, none⟩ = some (.int .i64 p) ∧ W'.cell? ⟨go, s, none⟩ = some (.slice P9 r.length c9')) (by kernel_rfl) ⟨q0, q1, q2, q3⟩ (fun hHeld => ?_)
          refine anyI_take (i := 0) (v := ?vb0) (by kernel_rfl) rfl (by kernel_rfl) (by kernel_rfl) (by kernel_rfl) (fun _ _ _ h => h) (fun _ => rfl) (Or.inl ⟨by rfl, ?yb0⟩) hHeld ?rb0
          case yb0 => (intro W hW; obtain ⟨hW0, hW1, hW2, hW3⟩ := hW; go_simp; first | done | with_reducible rfl)
          try simp only [List.getElem_toArray, List.getElem_cons_zero, Act.put, List.setIfInBounds_toArray, List.set_cons_zero, List.set_cons_succ]
          refine anyI_take (i := 1) (v := ?vb1) (by kernel_rfl) rfl (by kernel_rfl) (by kernel_rfl) (by kernel_rfl) (fun _ _ _ h => h) (fun _ => rfl) (Or.inl ⟨by rfl, ?yb1⟩) hHeld ?rb1
          case yb1 => (intro W hW; obtain ⟨hW0, hW1, hW2, hW3⟩ := hW; go_simp; first | done | with_reducible rfl)
          try simp only [List.getElem_toArray, List.getElem_cons_succ, List.getElem_cons_zero, Act.put, List.setIfInBounds_toArray, List.set_cons_zero, List.set_cons_succ]
          refine anyI_take (i := 2) (v := ?vb2) (by kernel_rfl) rfl (by kernel_rfl) (by kernel_rfl) (by kernel_rfl) (fun _ _ _ h => h) (fun _ => rfl) (Or.inl ⟨by rfl, ?yb2⟩) hHeld ?rb2
          case yb2 => (intro W hW; obtain ⟨hW0, hW1, hW2, hW3⟩ := hW; go_simp; first | done | with_reducible rfl)
          try simp only [List.getElem_toArray, List.getElem_cons_succ, List.getElem_cons_zero, Act.put, List.setIfInBounds_toArray, List.set_cons_zero, List.set_cons_succ]
          refine anyI_take (i := 3) (v := ?vb3) (by kernel_rfl) rfl (by kernel_rfl) (by kernel_rfl) (by kernel_rfl) (fun _ _ _ h => h) (fun _ => rfl) (Or.inl ⟨by rfl, ?yb3⟩) hHeld ?rb3
          case yb3 => (intro W hW; obtain ⟨hW0, hW1, hW2, hW3⟩ := hW; go_simp; first | done | with_reducible rfl)
          try simp only [List.getElem_toArray, List.getElem_cons_succ, List.getElem_cons_zero, Act.put, List.setIfInBounds_toArray, List.set_cons_zero, List.set_cons_succ]
          refine anyI_take (i := 4) (v := ?vb4) (by kernel_rfl) rfl (by kernel_rfl) (by kernel_rfl) (by kernel_rfl) (fun _ _ _ h => h) (fun _ => rfl) (Or.inl ⟨by rfl, ?yb4⟩) hHeld ?rb4
          case yb4 => (intro W hW; obtain ⟨hW0, hW1, hW2, hW3⟩ := hW; go_simp; first | done | with_reducible rfl)
          try simp only [List.getElem_toArray, List.getElem_cons_succ, List.getElem_cons_zero, Act.put, List.setIfInBounds_toArray, List.set_cons_zero, List.set_cons_succ]
          refine anyI_take (i := 5) (v := ?vb5) (by kernel_rfl) rfl (by kernel_rfl) (by kernel_rfl) (by kernel_rfl) (fun _ _ _ h => h) (fun _ => rfl) (Or.inl ⟨by rfl, ?yb5⟩) hHeld ?rb5
          case yb5 => (intro W hW; obtain ⟨hW0, hW1, hW2, hW3⟩ := hW; go_simp; first | done | with_reducible rfl)
          try simp only [List.getElem_toArray, List.getElem_cons_succ, List.getElem_cons_zero, Act.put, List.setIfInBounds_toArray, List.set_cons_zero, List.set_cons_succ]
          refine anyI_take (i := 6) (v := ?vb6) (by kernel_rfl) rfl (by kernel_rfl) (by kernel_rfl) (by kernel_rfl) (fun _ _ _ h => h) (fun _ => rfl) (Or.inl ⟨by rfl, ?yb6⟩) hHeld ?rb6
          case yb6 => (intro W hW; obtain ⟨hW0, hW1, hW2, hW3⟩ := hW; go_simp; first | done | with_reducible rfl)
          try simp only [List.getElem_toArray, List.getElem_cons_succ, List.getElem_cons_zero, Act.put, List.setIfInBounds_toArray, List.set_cons_zero, List.set_cons_succ]
          refine anyI_take (i := 7) (v := ?vb7) (by kernel_rfl) rfl (by kernel_rfl) (by kernel_rfl) (by kernel_rfl) (fun _ _ _ h => h) (fun _ => rfl) (Or.inl ⟨by rfl, ?yb7⟩) hHeld ?rb7
          case yb7 => (intro W hW; obtain ⟨hW0, hW1, hW2, hW3⟩ := hW; go_simp; first | done | with_reducible rfl)
          try simp only [List.getElem_toArray, List.getElem_cons_succ, List.getElem_cons_zero, Act.put, List.setIfInBounds_toArray, List.set_cons_zero, List.set_cons_succ]
          refine anyI_take (i := 8) (v := ?vb8) (by kernel_rfl) rfl (by kernel_rfl) (by kernel_rfl) (by kernel_rfl) (fun _ _ _ h => h) (fun _ => rfl) (Or.inl ⟨by rfl, ?yb8⟩) hHeld ?rb8
          case yb8 => (intro W hW; obtain ⟨hW0, hW1, hW2, hW3⟩ := hW; go_simp; first | done | with_reducible rfl)
          try simp only [List.getElem_toArray, List.getElem_cons_succ, List.getElem_cons_zero, Act.put, List.setIfInBounds_toArray, List.set_cons_zero, List.set_cons_succ]
          refine anyI_ready (rs := [9]) (by kernel_rfl) (by simp) ?_
          refine AllI.cons (by kernel_rfl) rfl (by rfl) (fun K hK => ?_) AllI.nil
          refine ⟨fun _ _ => trivial, ?_⟩
          go_simp
          rw [← HW6.out]
          refine hK.out _ _ (HAL.out) (fun hHeld => ?_)
          clear hK K
          try simp only [List.getElem_toArray, List.getElem_cons_succ, List.getElem_cons_zero, Act.put, List.setIfInBounds_toArray, List.set_cons_zero, List.set_cons_succ]
          refine anyI_ready (rs := [10]) (by kernel_rfl) (by simp) ?_
          refine AllI.cons (by kernel_rfl) rfl (by rfl) (fun K hK => ?_) AllI.nil
          refine ⟨fun _ _ => trivial, ?_⟩
          go_simp
          refine (CallsIn.inRound l (callsIn_wide.2 HCC.out)).mono ?_
          rintro e w7 ⟨v7, rfl, ho7, hb7⟩
          have k7 := Keeps.of_below hb7
          obtain ⟨P7, c7, rfl, -, -, -, -⟩ := ho7.form
          have hbW7 : Below W.heap.size W w7 := HBW6.out.trans (hb7.mono HBW6.out.size)
          have hom7 := HOM.out.below hbW7
          obtain ⟨g8, c8, u8', e8, -, -, hu8, hcu8, hfu8, -, -⟩ := hom7.at_ (ordTo_at es (j + 1) pk)
          injection e8 with e8 e88 e89
          injection e8 with e8
          injection e8 with e8
          subst e8
          clear e88 e89
          refine hK.out _ _ (⟨k7 _ _ hHeld.1, k7 _ _ hHeld.2.1, k7 _ _ hHeld.2.2.1, k7 _ _ hHeld.2.2.2⟩) (fun hHeld => ?_)
          clear hK K
          try simp only [List.getElem_toArray, List.getElem_cons_succ, List.getElem_cons_zero, Act.put, List.setIfInBounds_toArray, List.set_cons_zero, List.set_cons_succ]
          refine anyI_take (i := 11) (v := ?vb11) (by kernel_rfl) rfl (by kernel_rfl) (by kernel_rfl) (by kernel_rfl) (fun _ _ _ h => h) (fun _ => rfl) (Or.inl ⟨by rfl, ?yb11⟩) hHeld ?rb11
          case yb11 => (intro W hW; obtain ⟨hW0, hW1, hW2, hW3⟩ := hW; go_simp; first | done | with_reducible rfl)
          try simp only [List.getElem_toArray, List.getElem_cons_succ, List.getElem_cons_zero, Act.put, List.setIfInBounds_toArray, List.set_cons_zero, List.set_cons_succ]
          have hset7 := hom7.setRow (i := p) (co := k) (by rw [ordTo_len]) (ho7.mono (Nat.le_trans hzW HBW6.out.size)) (fun j' u' _ hj b hb => HOM.out.apart_new ho7 HBW6.out.size j' u' hj b hb)
          rw [HSET.out] at hset7
          have hb8 : Below w.heap.size W (w7.setCell ⟨go, p, none⟩ (.slice P7 (r ++ ds).length c7)) := (hbW7.mono hzW).setCell (p := ⟨go, p, none⟩) hgos _
          have hbo7 : Boxed w7 bo 65 (.slice (some ⟨go, 0, none⟩) k k) := (hbW7.block _ HBO.out.lt).trans HBO.out
          have hpb7 : Boxed w7 pb 30 (.slice A k c) := (hbW7.block _ HPB2.out.lt).trans HPB2.out
          have HFIN := Lib.hid (show KeepsOthers W (w7.setCell ⟨go, p, none⟩ (.slice P7 (r ++ ds).length c7)) ∧ Below w.heap.size W (w7.setCell ⟨go, p, none⟩ (.slice P7 (r ++ ds).length c7)) ∧ OrdI w A go bo pb k c es (k - (pre ++ [pre.length]).length) (w7.setCell ⟨go, p, none⟩ (.slice P7 (r ++ ds).length c7)) from
            ⟨(KeepsOthers.mk hbW7.size fun i o hi _ => (hbW7.block i (Array.getElem?_eq_some_iff.1 hi).1).trans hi).trans (KeepsOthers.setCell _ _ _), hb8, by
              rw [HKL2.out]
              exact ⟨⟨_, hset7⟩, ⟨(Below.heap_setCell _ _ _ _ (show bo ≠ go from fun e => hgb e.symm)).trans hbo7, (Below.heap_setCell _ _ _ _ (show pb ≠ go by omega)).trans hpb7⟩, HBW.out.trans hb8⟩⟩)
          obtain ⟨fl, hfl⟩ : ∃ f, f = (r ++ ds).length := ⟨_, rfl⟩
          rw [← hfl] at HFIN ⊢
          have hx12 : (w7.setCell ⟨go, p, none⟩ (.slice P7 fl c7)).cell? ⟨bo, 0, none⟩ = some (.slice (some ⟨go, 0, none⟩) k k) ∧ (w7.setCell ⟨go, p, none⟩ (.slice P7 fl c7)).cell? ⟨be, 0, none⟩ = some (.int .i64 s) ∧ (w7.setCell ⟨go, p, none⟩ (.slice P7 fl c7)).cell? ⟨be, 1, none⟩ = some (.int .i64 p) ∧ (w7.setCell ⟨go, p, none⟩ (.slice P7 fl c7)).cell? ⟨go, s, none⟩ = some (.slice P9 r.length c9') := by
            have hbg : be ≠ go := HBEG.out
            refine ⟨?_, ?_, ?_, ?_⟩
            · rw [World.cell?_of_block (Below.heap_setCell _ _ _ _ (show bo ≠ go from fun e => hgb e.symm))]; exact hHeld.1
            · rw [World.cell?_of_block (Below.heap_setCell _ _ _ _ hbg)]; exact hHeld.2.1
            · rw [World.cell?_of_block (Below.heap_setCell _ _ _ _ hbg)]; exact hHeld.2.2.1
            · have hq := hHeld.2.2.2
              go_simp
          have HX12 := Lib.hid hx12
          clear hset7 hb8 hbo7 hpb7 hom7 ho7 hb7 hbW7 k7 hfl hx12
          refine anyI_ready (rs := [12]) (by kernel_rfl) (by simp) ?_
          refine AllI.cons (by kernel_rfl) rfl (by rfl) (fun K hK => ?_) AllI.nil
          refine ⟨fun _ _ => trivial, ?_⟩
          go_simp
          refine hK.out _ _ (HX12.out) (fun hHeld => ?_)
          clear hK K
          try simp only [List.getElem_toArray, List.getElem_cons_succ, List.getElem_cons_zero, Act.put, List.setIfInBounds_toArray, List.set_cons_zero, List.set_cons_succ]
          refine anyI_done (by kernel_rfl) (noP_normal ?_) _
          clear hHeld
          gi_wp2
          exact HFIN.out
      case done =>
        rintro D ys W hD rfl ⟨⟨us, hom⟩, ⟨hbo, hpb⟩, hb⟩ hK
        rw [List.length_range, Nat.sub_self] at hom
        have HLI := Lib.hid (listed_any d k go k w.heap.size (ordTo es 0 k) us W h1 h4 HN.out hom (ordTo_len es 0 k) (HT.out.below hb hw1) (Nat.lt_of_lt_of_le hw1 hb.size))
        have hro := rows_orders HRP.out h1 h4
        rw [← HN.out] at hro
        have HRO := Lib.hid hro
        have HBW := Lib.hid hb
        have HK := Lib.hid hK
        have cbo := hbo.cell
        clear hom hbo hpb hb hK hro
        gi_wp2_with (refine ⟨trivial, ?_⟩; refine (callsIn_wide.2 HLI.out).mono ?_; rintro e w9 ⟨A9, c9, rfl, hmat, hb9⟩; rw [HRO.out] at hmat; have HM9 := Lib.hid hmat; have HB9 := Lib.hid hb9; clear hmat hb9)
        have hk9 := (HB9.out.block D (Array.getElem?_eq_some_iff.1 HK.out).1).trans HK.out
        refine ⟨by simp, .inl ⟨_, _, rfl, run_takeDeferred hk9, ?_⟩⟩
        exact ⟨_, results_tmp rfl _ _ _, A9, c9, rfl, HM9.out.keep (keeps_putObj _ hk9 rfl), (HBW.out.trans (HB9.out.mono HBW.out.size)).trans (below_put _ (by omega) hk9)⟩
end Go.Proofs.YtjllmladhjbnaaaGreatDoor
