/- Package hash: Len, get, Get. -/
import Derived.Test.YtioddfodajinlaaHsh4
import Derived.Test.YtioddfodajinlaaHsh8
namespace Go.Proofs.Ytioddfodajinlaa
open Go.RowKit
attribute [local go_sem] Oper.semAt_some
theorem hLen_any (B T g : Nat) (d me : Int) (vs : List (Option V5)) (ts : List (Option Cel)) (w : World) (hB : Tb B w T g d me vs ts) :
    Calls Try.prog 15 #[.pointer (some ⟨T, 0, none⟩)] w fun e w' => e = .returned (.int .i64 (cellsT ts).length) ∧ w = w' := by
  have y1 := hB.bx.cell (i := 1) rfl
  clear hB
  go_enter Try.func15, Try.ntmps15
  go_wp2
  go_ret
  exact ⟨rfl, rfl⟩
theorem slotL_zero (v : Option V5) (B : Nat) (w : World) (h : SlotO B w v none) : v = none := by
  match v, h with
  | none, _ => rfl
theorem slotL_some (v : Option V5) (B : Nat) (w : World) (y : Cel) (h : SlotO B w v (some y)) : ∃ u, v = some u ∧ OwnC B w u y := by
  match v, h with
  | some u, h => exact ⟨u, rfl, h⟩
set_option maxRecDepth 100000 in
set_option maxHeartbeats 4000000 in
theorem hget_any (B T g : Nat) (d me : Int) (vs : List (Option V5)) (ts : List (Option Cel)) (k s n m : Value) (x : Cel) (w : World) (hB : Tb B w T g d me vs ts) (hN1 : 1 ≤ ts.length) (hN2 : ts.length ≤ 10000)
    (hev : ∀ (i : Nat) (y : Cel), ts[i]? = some (some y) → y.key.length ≤ 1000) (hx : CR w k s n m x) (hl : x.key.length ≤ 1000) (hok : okK x.key = true) :
    Calls Try.prog 38 #[.pointer (some ⟨T, 0, none⟩), .agg #[k, .int .i64 x.cnt, s, n, m]] w fun e w' => (∃ k' s' n' m' y is, e = .returned (.tuple #[.agg #[k', .int .i64 y.cnt, s', n', m'], .bool is]) ∧ CR w' k' s' n' m' y ∧ inK .i64 y.cnt ∧ (getT ts x.key = some y ∧ is = true ∨ getT ts x.key = none ∧ is = false ∧ y = ⟨[], 0, [], [], []⟩)) ∧ Below w.heap.size w w' := by
  obtain ⟨N, hN⟩ : ∃ N, N = ts.length := ⟨_, rfl⟩
  rw [← hN] at hN1 hN2
  have HSK := Lib.hid (fun (W : World) (hb : Below w.heap.size w W) => seek_any T g N N ts k s n m x W hN.symm (hB.tab.below hb).read hev ((hB.below hb).bx.cell (i := 0) (by rw [hN]; rfl)) hN1 hN2 (hx.keep (Keeps.of_below hb)) hl hok)
  obtain ⟨⟨Pk, ck, rfl, -⟩, ⟨Ps, cs, rfl, -⟩, ⟨Pn, cn, rfl, -⟩, ⟨Pm, cm, rfl, -⟩⟩ := hx
  obtain ⟨c1, e1⟩ : ∃ z, z = x.cnt := ⟨_, rfl⟩
  obtain ⟨l1, f1⟩ : ∃ z, z = x.key.length := ⟨_, rfl⟩
  obtain ⟨l2, f2⟩ : ∃ z, z = x.sum.length := ⟨_, rfl⟩
  obtain ⟨l3, f3⟩ : ∃ z, z = x.mn.length := ⟨_, rfl⟩
  obtain ⟨l4, f4⟩ : ∃ z, z = x.mx.length := ⟨_, rfl⟩
  rw [← e1, ← f1, ← f2, ← f3, ← f4] at HSK ⊢
  clear e1 f1 f2 f3 f4 hl hok hev hN
  obtain ⟨w1, hw1⟩ : ∃ w1, w1 = w.alloc (.cells #[.slice Pk l1 ck, .int .i64 c1, .slice Ps l2 cs, .slice Pn l3 cn, .slice Pm l4 cm] 67) := ⟨_, rfl⟩
  obtain ⟨w2, hw2⟩ : ∃ w2, w2 = w1.alloc (.cells #[.slice none 0 0, .int .i64 0, .slice none 0 0, .slice none 0 0, .slice none 0 0] 67) := ⟨_, rfl⟩
  have z1 : w1.heap.size = w.heap.size + 1 := by rw [hw1]; simp
  have hb1 : Below w.heap.size w w1 := by rw [hw1]; exact (Below.refl _ w).alloc (Nat.le_refl _) _
  have hb2 : Below w1.heap.size w1 w2 := by rw [hw2]; exact (Below.refl _ w1).alloc (Nat.le_refl _) _
  have o1 : Own 67 w1 w.heap.size [.slice Pk l1 ck, .int .i64 c1, .slice Ps l2 cs, .slice Pn l3 cn, .slice Pm l4 cm] := by rw [hw1]; exact heap_alloc_new w _
  have o2 : Own 67 w2 w1.heap.size [.slice none 0 0, .int .i64 0, .slice none 0 0, .slice none 0 0, .slice none 0 0] := by rw [hw2]; exact heap_alloc_new w1 _
  have p := o1.bx.keep (Keeps.of_below hb2)
  rw [z1] at o2
  have HB := Lib.hid hB
  have Hb2 := Lib.hid (hb1.trans (hb2.mono hb1.size))
  have O2 := Lib.hid o2
  have HSW := Lib.hid (HSK.out w2 Hb2.out)
  obtain ⟨b, eb⟩ : ∃ b, b = w.heap.size := ⟨_, rfl⟩
  have hBb : B ≤ b := by rw [eb]; exact Nat.le_of_lt (Nat.lt_of_le_of_lt hB.hT hB.bx.lt)
  rw [← eb] at p O2
  have Eb := Lib.hid eb
  clear hB HSK o2 hb1 hb2 o1 z1
  go_enter Try.func38, Try.ntmps38
  go_upto_region 1 with (fail)
  rw [← hw1, ← hw2, ← eb]
  clear hw1 hw2 eb
  obtain ⟨p0, p1, p2, p3, p4⟩ := p
  go_wp2_with fail
  clear p0 p1 p2 p3 p4
  refine HSW.out.mono ?_
  rintro e w3 ⟨rfl, hb3⟩
  have hb03 := Hb2.out.trans (hb3.mono Hb2.out.size)
  have hB3 := HB.out.below hb03
  have o3 := O2.out.below hb3 O2.out.lt
  have Hb03 := Lib.hid hb03
  have O3 := Lib.hid o3
  have HB3 := Lib.hid hB3
  clear hb3 hb03 HSW O2 Hb2
  have zz : (seekT ts x.key = none ∨ ∃ q, seekT ts x.key = some q ∧ ts[q]? = some none) ∨ ∃ q y, seekT ts x.key = some q ∧ ts[q]? = some (some y) := by
    cases hs : seekT ts x.key with
    | none => exact .inl (.inl rfl)
    | some q =>
      rcases seekF_has (show seekF ts x.key _ _ = some q from hs) with h | ⟨y, h, _⟩
      · exact .inl (.inr ⟨q, rfl, h⟩)
      · exact .inr ⟨q, y, rfl, h⟩
  have Z0 : ∀ W : World, CR W (.slice none 0 0) (.slice none 0 0) (.slice none 0 0) (.slice none 0 0) ⟨[], 0, [], [], []⟩ := fun W => ⟨nil_ri W, nil_ri W, nil_ri W, nil_ri W⟩
  have HZ0 := Lib.hid Z0
  clear Z0
  have ho4 : Own 67 (put5 w3 (b + 1) (.slice none 0 0) (.int .i64 0) (.slice none 0 0) (.slice none 0 0) (.slice none 0 0)) (b + 1) [.slice none 0 0, .int .i64 0, .slice none 0 0, .slice none 0 0, .slice none 0 0] := put5_own o3
  have hb4 : Below w.heap.size w (put5 w3 (b + 1) (.slice none 0 0) (.int .i64 0) (.slice none 0 0) (.slice none 0 0) (.slice none 0 0)) := Hb03.out.trans (put5_only.below (by rw [Eb.out]; omega) Hb03.out.size)
  obtain ⟨W4, hW4⟩ : ∃ W4, W4 = put5 w3 (b + 1) (.slice none 0 0) (.int .i64 0) (.slice none 0 0) (.slice none 0 0) (.slice none 0 0) := ⟨_, rfl⟩
  rw [← hW4] at ho4 hb4
  unfold put5 at hW4
  have HW4 := Lib.hid hW4
  have Hb4 := Lib.hid hb4
  have s0 := o3.cell (i := 0) rfl
  have s1 := o3.cell (i := 1) rfl
  have s2 := o3.cell (i := 2) rfl
  have s3 := o3.cell (i := 3) rfl
  have s4 := o3.cell (i := 4) rfl
  have sf := o3.frozen
  have r0 := ho4.cell (i := 0) rfl
  have r1 := ho4.cell (i := 1) rfl
  have r2 := ho4.cell (i := 2) rfl
  have r3 := ho4.cell (i := 3) rfl
  have r4 := ho4.cell (i := 4) rfl
  clear hW4 hb4 ho4 o3 hB3
  rcases zz with (hs | ⟨q, hs, hq⟩) | ⟨q, y, hs, hq⟩
  · have hg : getT ts x.key = none := by unfold getT; rw [hs]
    have HG := Lib.hid hg
    rw [hs]
    simp only [Option.map_none]
    clear hg hs
    go_wp2
    rw [← HW4.out]
    exact bodyPost_ret (v := .tuple #[.agg #[.slice none 0 0, .int .i64 0, .slice none 0 0, .slice none 0 0, .slice none 0 0], .bool false]) (by simp [results, Try.results38, go_sem, r0, r1, r2, r3, r4]) rfl ⟨⟨_, _, _, _, ⟨[], 0, [], [], []⟩, false, rfl, HZ0.out _, by simp [inK], .inr ⟨HG.out, rfl, rfl⟩⟩, Hb4.out⟩
  · have hg : getT ts x.key = none := by unfold getT; rw [hs]; simp only [hq]; rfl
    have HG := Lib.hid hg
    rw [hs]
    simp only [Option.map_some]
    have hc : w3.cell? ⟨g, q * 6 + 5, none⟩ = some (.bool false) := HB3.out.tab.read q none hq
    clear hg hs hq
    go_wp2
    rw [← HW4.out]
    exact bodyPost_ret (v := .tuple #[.agg #[.slice none 0 0, .int .i64 0, .slice none 0 0, .slice none 0 0, .slice none 0 0], .bool false]) (by simp [results, Try.results38, go_sem, r0, r1, r2, r3, r4]) rfl ⟨⟨_, _, _, _, ⟨[], 0, [], [], []⟩, false, rfl, HZ0.out _, by simp [inK], .inr ⟨HG.out, rfl, rfl⟩⟩, Hb4.out⟩
  · have hg : getT ts x.key = some y := by unfold getT; rw [hs]; simp only [hq]; rfl
    have HG := Lib.hid hg
    rw [hs]
    simp only [Option.map_some]
    obtain ⟨v, hv, hsl, hcl⟩ := HB3.out.tab.slot hq
    obtain ⟨⟨kk, vb, ks, kn, km⟩, rfl, e0, hco, hiy⟩ := slotL_some _ _ _ _ hsl
    dsimp only at e0 hco
    subst e0
    have q0 : w3.cell? ⟨g, q * 6, none⟩ = some kk := hcl 0 (by omega) _ rfl
    have q1 : w3.cell? ⟨g, q * 6 + 1, none⟩ = some (.int .i64 y.cnt) := hcl 1 (by omega) _ rfl
    have q2 : w3.cell? ⟨g, q * 6 + 2, none⟩ = some ks := hcl 2 (by omega) _ rfl
    have q3 : w3.cell? ⟨g, q * 6 + 3, none⟩ = some kn := hcl 3 (by omega) _ rfl
    have q4 : w3.cell? ⟨g, q * 6 + 4, none⟩ = some km := hcl 4 (by omega) _ rfl
    have q5 : w3.cell? ⟨g, q * 6 + 5, none⟩ = some (.bool true) := hcl 5 (by omega) _ rfl
    clear hg hs hq hv hsl hcl r0 r1 r2 r3 r4
    obtain ⟨P1, d1, f1, -⟩ := hco.key.form
    obtain ⟨P2, d2, f2, -⟩ := hco.sum.form
    obtain ⟨P3, d3, f3, -⟩ := hco.mn.form
    obtain ⟨P4, d4, f4, -⟩ := hco.mx.form
    subst f1 f2 f3 f4
    obtain ⟨yc, eyc⟩ : ∃ z, z = y.cnt := ⟨_, rfl⟩
    obtain ⟨m1, h1⟩ : ∃ z, z = y.key.length := ⟨_, rfl⟩
    obtain ⟨m2, h2⟩ : ∃ z, z = y.sum.length := ⟨_, rfl⟩
    obtain ⟨m3, h3⟩ : ∃ z, z = y.mn.length := ⟨_, rfl⟩
    obtain ⟨m4, h4⟩ : ∃ z, z = y.mx.length := ⟨_, rfl⟩
    rw [← h1, ← h2, ← h3, ← h4] at hco
    rw [← h1] at q0
    rw [← eyc] at q1 hiy
    rw [← h2] at q2
    rw [← h3] at q3
    rw [← h4] at q4
    obtain ⟨W5, hW5⟩ : ∃ W5, W5 = put5 w3 (b + 1) (.slice P1 m1 d1) (.int .i64 yc) (.slice P2 m2 d2) (.slice P3 m3 d3) (.slice P4 m4 d4) := ⟨_, rfl⟩
    have ho5 : Own 67 W5 (b + 1) [.slice P1 m1 d1, .int .i64 yc, .slice P2 m2 d2, .slice P3 m3 d3, .slice P4 m4 d4] := hW5 ▸ put5_own O3.out
    have on5 : Only (b + 1) w3 W5 := hW5 ▸ put5_only
    have hb5 : Below w.heap.size w W5 := Hb03.out.trans (on5.below (by rw [Eb.out]; omega) Hb03.out.size)
    have Hcy5 := Lib.hid (hco.only on5 O3.out (by decide)).cr
    have r0 := ho5.cell (i := 0) rfl
    have r1 := ho5.cell (i := 1) rfl
    have r2 := ho5.cell (i := 2) rfl
    have r3 := ho5.cell (i := 3) rfl
    have r4 := ho5.cell (i := 4) rfl
    have Hb5 := Lib.hid hb5
    unfold put5 at hW5
    have HW5 := Lib.hid hW5
    have Hiy := Lib.hid hiy
    have Eyc := Lib.hid eyc
    clear hco hW5 ho5 on5 hb5 hiy eyc h1 h2 h3 h4
    go_wp2
    rw [← HW5.out]
    refine bodyPost_ret (v := .tuple #[.agg #[.slice P1 m1 d1, .int .i64 yc, .slice P2 m2 d2, .slice P3 m3 d3, .slice P4 m4 d4], .bool true]) (by simp [results, Try.results38, go_sem, r0, r1, r2, r3, r4]) rfl ⟨⟨_, _, _, _, y, true, ?_, Hcy5.out, ?_, .inl ⟨HG.out, rfl⟩⟩, Hb5.out⟩
    · rw [← Eyc.out]
    · rw [← Eyc.out]; exact Hiy.out
set_option maxRecDepth 100000 in
set_option maxHeartbeats 4000000 in
theorem hGet_any (B T g : Nat) (d me : Int) (vs : List (Option V5)) (ts : List (Option Cel)) (kv : Value) (key : List Int) (w : World) (hB : Tb B w T g d me vs ts) (hN1 : 1 ≤ ts.length) (hN2 : ts.length ≤ 10000)
    (hev : ∀ (i : Nat) (y : Cel), ts[i]? = some (some y) → y.key.length ≤ 1000 ∧ y.sum.length ≤ 1000000 ∧ y.mn.length ≤ 1000000 ∧ y.mx.length ≤ 1000000) (hx : RI w kv key) (hl : key.length ≤ 1000) :
    Calls Try.prog 17 #[.pointer (some ⟨T, 0, none⟩), kv] w fun e w' => (∃ k' s' n' m' y is, e = .returned (.tuple #[.agg #[k', .int .i64 y.cnt, s', n', m'], .bool is]) ∧ CR w' k' s' n' m' y ∧ inK .i64 y.cnt ∧ (okK key = true ∧ getT ts key = some y ∧ is = true ∨ (okK key = false ∨ getT ts key = none) ∧ is = false ∧ y = ⟨[], 0, [], [], []⟩)) ∧ Below w.heap.size w w' := by
  have HIB := Lib.hid (fun (W : World) (hb : Below w.heap.size w W) (A : Option Addr) (c : Nat) (h : kv = .slice A key.length c) => inB_any A key.length c key W (by
    obtain ⟨P, c', e, h1, -⟩ := hx.keep (Keeps.of_below hb)
    rw [h] at e
    injection e with e1 e2 e3
    subst e1
    exact h1) (by omega))
  have HGT := Lib.hid (fun (W : World) (hb : Below w.heap.size w W) (hok : okK key = true) => hget_any B T g d me vs ts kv (.slice none 0 0) (.slice none 0 0) (.slice none 0 0) ⟨key, 0, [], [], []⟩ W (hB.below hb) hN1 hN2 (fun i y h => (hev i y h).1) ⟨hx.keep (Keeps.of_below hb), nil_ri W, nil_ri W, nil_ri W⟩ hl hok)
  have HEV : Hid (∀ y : Cel, getT ts key = some y → y.key.length ≤ 1000 ∧ y.sum.length ≤ 1000000 ∧ y.mn.length ≤ 1000000 ∧ y.mx.length ≤ 1000000) := Lib.hid (fun y hy => by
    unfold getT at hy
    cases hs : seekT ts key with
    | none => rw [hs] at hy; cases hy
    | some q =>
      rw [hs] at hy
      simp only at hy
      cases hq : ts[q]? with
      | none => rw [hq] at hy; cases hy
      | some t => rw [hq] at hy; simp only [Option.join_some] at hy; subst hy; exact hev q y hq)
  obtain ⟨P, c, rfl, -⟩ := hx
  obtain ⟨K, hK⟩ : ∃ K, K = key.length := ⟨_, rfl⟩
  rw [← hK] at HIB HGT ⊢
  clear hB hev hl hK
  obtain ⟨w1, hw1⟩ : ∃ w1, w1 = w.alloc (.cells #[.slice none 0 0, .int .i64 0, .slice none 0 0, .slice none 0 0, .slice none 0 0] 39) := ⟨_, rfl⟩
  have hb1 : Below w.heap.size w w1 := by rw [hw1]; exact (Below.refl _ w).alloc (Nat.le_refl _) _
  have o1 : Own 39 w1 w.heap.size [.slice none 0 0, .int .i64 0, .slice none 0 0, .slice none 0 0, .slice none 0 0] := by rw [hw1]; exact heap_alloc_new w _
  have Hb1 := Lib.hid hb1
  have HW1 := Lib.hid (HIB.out w1 hb1 P c rfl)
  have HG1 := Lib.hid (HGT.out w1 hb1)
  have z1 : w1.heap.size = w.heap.size + 1 := by rw [hw1]; simp
  obtain ⟨b, eb⟩ : ∃ b, b = w.heap.size := ⟨_, rfl⟩
  rw [← eb] at o1
  have Eb := Lib.hid eb
  have O1 := Lib.hid o1
  have Z1 := Lib.hid z1
  clear HIB HGT hb1 o1 z1
  go_enter Try.func17, Try.ntmps17
  go_upto_region 1 with (fail)
  rw [← hw1, ← eb]
  clear hw1 eb
  go_wp2_with fail
  refine HW1.out.mono ?_
  rintro e w' ⟨rfl, rfl⟩
  rename World => w1
  clear HW1
  have s0 := O1.out.cell (i := 0) rfl
  have s1 := O1.out.cell (i := 1) rfl
  have s2 := O1.out.cell (i := 2) rfl
  have s3 := O1.out.cell (i := 3) rfl
  have s4 := O1.out.cell (i := 4) rfl
  have sf := O1.out.frozen
  cases hok : okK key with
  | false =>
    have HOK := Lib.hid hok
    clear hok HG1
    have ho4 : Own 39 (put5 w1 b (.slice none 0 0) (.int .i64 0) (.slice none 0 0) (.slice none 0 0) (.slice none 0 0)) b [.slice none 0 0, .int .i64 0, .slice none 0 0, .slice none 0 0, .slice none 0 0] := put5_own O1.out
    have hb4 : Below w.heap.size w (put5 w1 b (.slice none 0 0) (.int .i64 0) (.slice none 0 0) (.slice none 0 0) (.slice none 0 0)) := Hb1.out.trans (put5_only.below (by rw [Eb.out]; omega) Hb1.out.size)
    obtain ⟨W4, hW4⟩ : ∃ W4, W4 = put5 w1 b (.slice none 0 0) (.int .i64 0) (.slice none 0 0) (.slice none 0 0) (.slice none 0 0) := ⟨_, rfl⟩
    rw [← hW4] at ho4 hb4
    unfold put5 at hW4
    have HW4 := Lib.hid hW4
    have Hb4 := Lib.hid hb4
    have r0 := ho4.cell (i := 0) rfl
    have r1 := ho4.cell (i := 1) rfl
    have r2 := ho4.cell (i := 2) rfl
    have r3 := ho4.cell (i := 3) rfl
    have r4 := ho4.cell (i := 4) rfl
    clear hW4 hb4 ho4
    go_wp2
    rw [← HW4.out]
    exact bodyPost_ret (v := .tuple #[.agg #[.slice none 0 0, .int .i64 0, .slice none 0 0, .slice none 0 0, .slice none 0 0], .bool false]) (by simp [results, Try.results17, go_sem, r0, r1, r2, r3, r4]) rfl ⟨⟨_, _, _, _, ⟨[], 0, [], [], []⟩, false, rfl, ⟨nil_ri _, nil_ri _, nil_ri _, nil_ri _⟩, by simp [inK], .inr ⟨.inl HOK.out, rfl, rfl⟩⟩, Hb4.out⟩
  | true =>
    have HOK := Lib.hid hok
    have hgt := HG1.out hok
    have HGT := Lib.hid hgt
    clear hok hgt HG1
    go_wp2_with fail
    refine HGT.out.mono ?_
    rintro e w2 ⟨⟨kk, ks, kn, km, y, is, rfl, hcr, hiy, hwh⟩, hb2⟩
    clear HGT
    have hyl : y.key.length ≤ 1000 ∧ y.sum.length ≤ 1000000 ∧ y.mn.length ≤ 1000000 ∧ y.mx.length ≤ 1000000 := by
      rcases hwh with ⟨h, -⟩ | ⟨-, -, rfl⟩
      · exact HEV.out y h
      · simp
    obtain ⟨a1, a2, a3, a4⟩ := hyl
    have hCL := fun (W : World) (hb : Below w2.heap.size w2 W) => hcloned_any kk ks kn km y W (hcr.keep (Keeps.of_below hb)) (by omega) a2 a3 a4
    obtain ⟨⟨Q1, d1, rfl, -⟩, ⟨Q2, d2, rfl, -⟩, ⟨Q3, d3, rfl, -⟩, ⟨Q4, d4, rfl, -⟩⟩ := hcr
    obtain ⟨yc, eyc⟩ : ∃ z, z = y.cnt := ⟨_, rfl⟩
    obtain ⟨m1, h1⟩ : ∃ z, z = y.key.length := ⟨_, rfl⟩
    obtain ⟨m2, h2⟩ : ∃ z, z = y.sum.length := ⟨_, rfl⟩
    obtain ⟨m3, h3⟩ : ∃ z, z = y.mn.length := ⟨_, rfl⟩
    obtain ⟨m4, h4⟩ : ∃ z, z = y.mx.length := ⟨_, rfl⟩
    rw [← eyc, ← h1, ← h2, ← h3, ← h4] at hCL ⊢
    have HCL := Lib.hid hCL
    have Hb02 := Lib.hid (Hb1.out.trans (hb2.mono Hb1.out.size))
    have o2 := O1.out.below hb2 O1.out.lt
    have O2 := Lib.hid o2
    have Eyc := Lib.hid eyc
    have Hwh := Lib.hid hwh
    have Hiy := Lib.hid hiy
    clear hCL h1 h2 h3 h4 a1 a2 a3 a4 hb2 o2 eyc hwh hiy s0 s1 s2 s3 s4 sf
    go_upto_region 4 with (fail)
    obtain ⟨w3, hw3⟩ : ∃ w3, w3 = w2.alloc (.cells #[.slice Q1 m1 d1, .int .i64 yc, .slice Q2 m2 d2, .slice Q3 m3 d3, .slice Q4 m4 d4] 67) := ⟨_, rfl⟩
    have o3 : Own 67 w3 w2.heap.size [.slice Q1 m1 d1, .int .i64 yc, .slice Q2 m2 d2, .slice Q3 m3 d3, .slice Q4 m4 d4] := by rw [hw3]; exact heap_alloc_new w2 _
    have hb3 : Below w2.heap.size w2 w3 := by rw [hw3]; exact (Below.refl _ w2).alloc (Nat.le_refl _) _
    rw [← hw3]
    have HC3 := Lib.hid (HCL.out w3 hb3)
    have Hb03 := Lib.hid (Hb02.out.trans (hb3.mono Hb02.out.size))
    have O3 := Lib.hid (O2.out.below hb3 O2.out.lt)
    obtain ⟨p0, p1, p2, p3, p4⟩ := o3.bx
    clear hw3 o3 hb3 HCL O2
    go_wp2_with fail
    clear p0 p1 p2 p3 p4
    refine HC3.out.mono ?_
    rintro e w4 ⟨kk, ks, kn, km, rfl, hco, -, hb4⟩
    obtain ⟨P1, e1, f1, -⟩ := hco.key.form
    obtain ⟨P2, e2, f2, -⟩ := hco.sum.form
    obtain ⟨P3, e3, f3, -⟩ := hco.mn.form
    obtain ⟨P4, e4, f4, -⟩ := hco.mx.form
    generalize y.key.length = n1 at f1
    generalize y.sum.length = n2 at f2
    generalize y.mn.length = n3 at f3
    generalize y.mx.length = n4 at f4
    subst f1 f2 f3 f4
    have o4 := O3.out.below hb4 O3.out.lt
    have Hb04 := Lib.hid (Hb03.out.trans (hb4.mono Hb03.out.size))
    obtain ⟨W5, hW5⟩ : ∃ W5, W5 = put5 w4 b (.slice P1 n1 e1) (.int .i64 yc) (.slice P2 n2 e2) (.slice P3 n3 e3) (.slice P4 n4 e4) := ⟨_, rfl⟩
    have ho5 : Own 39 W5 b [.slice P1 n1 e1, .int .i64 yc, .slice P2 n2 e2, .slice P3 n3 e3, .slice P4 n4 e4] := hW5 ▸ put5_own o4
    have on5 : Only b w4 W5 := hW5 ▸ put5_only
    have hb5 : Below w.heap.size w W5 := Hb04.out.trans (on5.below (by rw [Eb.out]; omega) Hb04.out.size)
    have Hcy5 := Lib.hid (hco.only on5 o4 (by decide)).cr
    have s0 := o4.cell (i := 0) rfl
    have s1 := o4.cell (i := 1) rfl
    have s2 := o4.cell (i := 2) rfl
    have s3 := o4.cell (i := 3) rfl
    have s4 := o4.cell (i := 4) rfl
    have sf := o4.frozen
    have r0 := ho5.cell (i := 0) rfl
    have r1 := ho5.cell (i := 1) rfl
    have r2 := ho5.cell (i := 2) rfl
    have r3 := ho5.cell (i := 3) rfl
    have r4 := ho5.cell (i := 4) rfl
    have Hb5 := Lib.hid hb5
    unfold put5 at hW5
    have HW5 := Lib.hid hW5
    clear hco hW5 ho5 on5 hb5 hb4 HC3 o4
    go_wp2
    rw [← HW5.out]
    refine bodyPost_ret (v := .tuple #[.agg #[.slice P1 n1 e1, .int .i64 yc, .slice P2 n2 e2, .slice P3 n3 e3, .slice P4 n4 e4], .bool is]) (by simp [results, Try.results17, go_sem, r0, r1, r2, r3, r4]) rfl ⟨⟨_, _, _, _, y, is, ?_, Hcy5.out, Hiy.out, ?_⟩, Hb5.out⟩
    · rw [← Eyc.out]
    · rcases Hwh.out with ⟨h1, h2⟩ | ⟨h1, h2, h3⟩
      · exact .inl ⟨HOK.out, h1, h2⟩
      · exact .inr ⟨.inr h1, h2, h3⟩
end Go.Proofs.Ytioddfodajinlaa
/- Package hash: entries, Cells. -/
namespace Go.Proofs.Ytioddfodajinlaa
open Go.RowKit
attribute [local go_sem] Oper.semAt_some
theorem infoKd : (Try.prog.info? 67).map (fun i => (i.zero, i.size, i.bytes)) = some (some (.agg #[.slice none 0 0, .int .i64 0, .slice none 0 0, .slice none 0 0, .slice none 0 0]), 5, 104) := by kernel_rfl
theorem OI.rowK {B B' : Nat} {X Y : World} {v w : Value} {xs : List Int} {n : Nat} {ys : List Value} (h : OI B X w xs) (ho : X.ownsRow B' 67 5 v n ys) (hg : X.grownBy Y v.ownBlock) : OI B Y w xs :=
  ⟨own_stay h.1 fun k hk => hg.block k (h.1.lt k hk).2 fun e => by
    rcases own_apart h.1 ho (by decide) with h0 | h0
    · rw [h0] at hk; cases hk
    · exact h0 (by rw [hk, e]), h.2⟩
/-- One more entry, laid out first in a block of one. -/
theorem append_kd {B B1 : Nat} {X : World} {v : Value} {us : List V5} {J : List Cel} {u : V5} {x : Cel} (ho : X.ownsRow B1 67 5 v us.length (flatV us)) (h : OwnL B X us J) (h2 : OwnC B X u x) (hl : us.length + 1 ≤ 1000000) (hB : B1 ≤ X.heap.size) :
    ∃ v' X3, (Builtin.append_ #[77, 77] 77 #[v, .slice (some ⟨X.heap.size, 0, none⟩) 1 1]).run Try.prog (X.alloc (.cells #[u.a, u.b, u.c, u.d, u.e] 67)) = .ok v' X3 ∧ X3.ownsRow B1 67 5 v' (us ++ [u]).length (flatV (us ++ [u])) ∧ OwnL B X3 (us ++ [u]) (J ++ [x]) ∧
      (∀ B0, B0 ≤ B1 → Below B0 X X3) := by
  have hb : Below X.heap.size X (X.alloc (.cells #[u.a, u.b, u.c, u.d, u.e] 67)) := (Below.refl _ _).alloc (Nat.le_refl _) _
  obtain ⟨i0, hi, hz0, hz1, hz2⟩ := info_parts infoKd
  have ho2 := own_below ho hb (Nat.le_refl _)
  have hL2 : OwnL B (X.alloc (.cells #[u.a, u.b, u.c, u.d, u.e] 67)) (us ++ [u]) (J ++ [x]) := (h.append (OwnL.one h2)).below hb
  obtain ⟨v', X3, hrun, hr, hg, -, -⟩ := run_append_own_at (P := Try.prog) (X.alloc (.cells #[u.a, u.b, u.c, u.d, u.e] 67)) B1 77 77 67 i0 _ 5 104 Try.underlying77 hi hz0 hz1 hz2 rfl (by omega) v us.length (flatV us) ho2 ⟨X.heap.size, 0, none⟩ 1 1 (flatV [u]) (by simp [flatV, V5.l])
    (fun j w hw => by
      rw [add0, show (X.alloc (.cells #[u.a, u.b, u.c, u.d, u.e] 67)).cell? ⟨X.heap.size, j, none⟩ = #[u.a, u.b, u.c, u.d, u.e][j]? from cell_of_row _ _ _ _ 67 (0, 0) (heap_alloc_new X _)]
      rw [flatV_one] at hw
      simpa [V5.l] using hw) (OwnL.one h2).reads.one (by simp only [maxLen]; omega) (by omega) (by simp; omega)
  refine ⟨v', X3, hrun, ?_, hL2.stay fun o => o.rowK ho2 hg, fun B0 hB0 => ?_⟩
  · rw [List.length_append, flatV_append]
    exact hr
  · refine ((hb.mono (show B0 ≤ X.heap.size by omega))).grown hg (by simp; omega) fun j e => ?_
    have := (ho.lt j e).1
    omega
theorem cells_take {ts : List (Option Cel)} {k : Nat} {t : Option Cel} (h : ts[k]? = some t) : cellsT (ts.take (k + 1)) = cellsT (ts.take k) ++ t.toList := by
  unfold cellsT
  rw [List.take_add_one, h, List.filterMap_append]
  cases t <;> rfl
theorem cells_take_len (ts : List (Option Cel)) (k : Nat) : (cellsT (ts.take k)).length ≤ k := by
  have := cells_le (ts.take k)
  rw [List.length_take] at this
  omega
set_option maxRecDepth 100000 in
set_option maxHeartbeats 4000000 in
theorem hentries_any (B T g : Nat) (d me : Int) (vs : List (Option V5)) (ts : List (Option Cel)) (w : World) (hB : Tb B w T g d me vs ts) (hN2 : ts.length ≤ 10000) :
    Calls Try.prog 41 #[.pointer (some ⟨T, 0, none⟩)] w fun e w' => ∃ v us, e = .returned v ∧ w'.ownsRow w.heap.size 67 5 v us.length (flatV us) ∧ OwnL B w' us (cellsT ts) ∧ Below w.heap.size w w' := by
  obtain ⟨N, hN⟩ : ∃ N, N = ts.length := ⟨_, rfl⟩
  have y0 : w.cell? ⟨T, 0, none⟩ = some (.slice (some ⟨g, 0, none⟩) N N) := hB.bx.cell (by rw [hN]; rfl)
  rw [← hN] at hN2
  have HB := Lib.hid hB
  have HN := Lib.hid hN
  clear hB hN
  go_enter Try.func41, Try.ntmps41
  go_wp2
  clear y0
  go_loopw [3, 11] (fun l i wr => ∃ (k : Nat) (us : List V5), i = .int .i64 k ∧ k ≤ N ∧ wr.ownsRow w.heap.size 67 5 l us.length (flatV us) ∧ OwnL B wr us (cellsT (ts.take k)) ∧ Below w.heap.size w wr) (fun _ i _ => N - (intOf i).toNat)
  case atStart => exact ⟨0, [], rfl, Nat.zero_le _, World.ownsRow_nil _ _ _ _, ⟨rfl, fun i u x h => by simp at h⟩, Below.refl _ _⟩
  case round =>
    obtain ⟨k, us, rfl, hk, ho, hL, hb⟩ := hrel
    rename World => wr
    by_cases hkN : k < N
    · have hkt : k < ts.length := by rw [← HN.out]; exact hkN
      obtain ⟨t, ht⟩ : ∃ t, ts[k]? = some t := ⟨_, List.getElem?_eq_getElem hkt⟩
      obtain ⟨v, hv, hsl, hcl⟩ := ((HB.out.below hb).tab.slot ht)
      have k0 : (0 : Int) ≤ (k : Int) := by omega
      have k1 : (k : Int) < (N : Int) := by omega
      have k2 : decide ((k : Int) < (N : Int)) = true := decide_eq_true k1
      have htk := cells_take ht
      have hlen := hL.1
      have htl := cells_take_len ts k
      have Ho := Lib.hid ho
      have HL := Lib.hid hL
      have Hb := Lib.hid hb
      have HT := Lib.hid htk
      match t, v, hsl with
      | none, none, hsl =>
        have q0 : wr.cell? ⟨g, k * 6, none⟩ = some (.slice none 0 0) := hcl 0 (by omega) _ rfl
        have q1 : wr.cell? ⟨g, k * 6 + 1, none⟩ = some (.int .i64 0) := hcl 1 (by omega) _ rfl
        have q2 : wr.cell? ⟨g, k * 6 + 2, none⟩ = some (.slice none 0 0) := hcl 2 (by omega) _ rfl
        have q3 : wr.cell? ⟨g, k * 6 + 3, none⟩ = some (.slice none 0 0) := hcl 3 (by omega) _ rfl
        have q4 : wr.cell? ⟨g, k * 6 + 4, none⟩ = some (.slice none 0 0) := hcl 4 (by omega) _ rfl
        have q5 : wr.cell? ⟨g, k * 6 + 5, none⟩ = some (.bool false) := hcl 5 (by omega) _ rfl
        have hb1 : Below wr.heap.size wr (wr.alloc (.cells #[.slice none 0 0, .int .i64 0, .slice none 0 0, .slice none 0 0, .slice none 0 0, .bool false] 93)) := (Below.refl _ _).alloc (Nat.le_refl _) _
        have Hb1 := Lib.hid hb1
        clear hb1 hcl hsl hv ht hkt htk hlen htl ho hL hb
        go_wp2
        go_roundw
        case rel => exact ⟨k + 1, us, by go_num, by omega, own_below Ho.out Hb1.out (Nat.le_refl _), by rw [HT.out]; simpa using HL.out.below Hb1.out, Hb.out.trans (Hb1.out.mono Hb.out.size)⟩
        case measure => simp [intOf]; omega
      | some x, some ⟨ka, kb, kc, kd, ke⟩, hsl =>
        obtain ⟨e0, hco, hix⟩ := (show OwnC B wr ⟨ka, kb, kc, kd, ke⟩ x from hsl)
        dsimp only at e0 hco
        subst e0
        have q0 : wr.cell? ⟨g, k * 6, none⟩ = some ka := hcl 0 (by omega) _ rfl
        have q1 : wr.cell? ⟨g, k * 6 + 1, none⟩ = some (.int .i64 x.cnt) := hcl 1 (by omega) _ rfl
        have q2 : wr.cell? ⟨g, k * 6 + 2, none⟩ = some kc := hcl 2 (by omega) _ rfl
        have q3 : wr.cell? ⟨g, k * 6 + 3, none⟩ = some kd := hcl 3 (by omega) _ rfl
        have q4 : wr.cell? ⟨g, k * 6 + 4, none⟩ = some ke := hcl 4 (by omega) _ rfl
        have q5 : wr.cell? ⟨g, k * 6 + 5, none⟩ = some (.bool true) := hcl 5 (by omega) _ rfl
        have hx : OwnC B wr ⟨ka, .int .i64 x.cnt, kc, kd, ke⟩ x := ⟨rfl, hco, hix⟩
        obtain ⟨P1, d1, f1, -⟩ := hco.key.form
        obtain ⟨P2, d2, f2, -⟩ := hco.sum.form
        obtain ⟨P3, d3, f3, -⟩ := hco.mn.form
        obtain ⟨P4, d4, f4, -⟩ := hco.mx.form
        generalize x.key.length = m1 at f1
        generalize x.sum.length = m2 at f2
        generalize x.mn.length = m3 at f3
        generalize x.mx.length = m4 at f4
        subst f1 f2 f3 f4
        obtain ⟨xc, exc⟩ : ∃ z, z = x.cnt := ⟨_, rfl⟩
        rw [← exc] at q1 hx
        obtain ⟨w5, hw5⟩ : ∃ w5, w5 = wr.alloc (.cells #[.slice P1 m1 d1, .int .i64 xc, .slice P2 m2 d2, .slice P3 m3 d3, .slice P4 m4 d4, .bool true] 93) := ⟨_, rfl⟩
        have o5 : Own 93 w5 wr.heap.size [.slice P1 m1 d1, .int .i64 xc, .slice P2 m2 d2, .slice P3 m3 d3, .slice P4 m4 d4, .bool true] := by rw [hw5]; exact heap_alloc_new wr _
        have hb5 : Below wr.heap.size wr w5 := by rw [hw5]; exact (Below.refl _ _).alloc (Nat.le_refl _) _
        have r0 := o5.cell (i := 0) rfl
        have r1 := o5.cell (i := 1) rfl
        have r2 := o5.cell (i := 2) rfl
        have r3 := o5.cell (i := 3) rfl
        have r4 := o5.cell (i := 4) rfl
        have r5 := o5.cell (i := 5) rfl
        obtain ⟨v', X3, hrun, hr, hL3, hb3⟩ := append_kd (own_below ho hb5 (Nat.le_refl _)) (hL.below hb5) (OwnC.stay hx fun o => o.below hb5) (by omega) (Nat.le_trans hb.size hb5.size)
        dsimp only at hrun
        have Hrun := Lib.hid hrun
        have Hr := Lib.hid hr
        have HL3 := Lib.hid hL3
        have Hb3 := Lib.hid ((hb.trans (hb5.mono hb.size)).trans (hb3 _ (Nat.le_refl _)))
        have HW5 := Lib.hid hw5
        clear hcl hsl hv ht hkt htk hlen htl ho hL hb hx hco hix exc hw5 o5 hb5 hrun hr hL3 hb3
        go_upto_region 5 with (fail)
        rw [← HW5.out]
        clear q0 q1 q2 q3 q4 q5
        go_wp2_with (at_builtin; have _t := Hrun; refine wpList_append_eq rfl (.tmp 17) (.tmp 20) 77 rfl _ _ _ _ rfl rfl Hrun.out ?_; clear _t Hrun)
        go_roundw
        case rel => exact ⟨k + 1, _, by go_num, by omega, Hr.out, by rw [HT.out]; exact HL3.out, Hb3.out⟩
        case measure => simp [intOf]; omega
    · obtain rfl : k = N := by omega
      rw [List.take_of_length_le (Nat.le_of_eq HN.out.symm)] at hL
      have k2 : decide ((k : Int) < (k : Int)) = false := by simp
      have Ho := Lib.hid ho
      have HL := Lib.hid hL
      have Hb := Lib.hid hb
      clear ho hL hb
      go_wp2
      go_ret
      exact ⟨_, us, rfl, Ho.out, HL.out, Hb.out⟩
end Go.Proofs.Ytioddfodajinlaa
