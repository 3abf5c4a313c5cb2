/- The law HashFull. -/
import Derived.IntWalk
import Derived.Test.YtgjcbbpmcojcoaaHsho
import Derived.Test.YtgjcbbpmcojcoaaMake
import Derived.Test.YtgjcbbpmcojcoaaFactsLaw2
import Derived.Test.YtgjcbbpmcojcoaaCelg
import Derived.Test.YtgjcbbpmcojcoaaIsRow
namespace Go.Proofs.Ytgjcbbpmcojcoaa
open Go.RowKit
attribute [local go_sem] Oper.semAt_some
theorem infoSl : (Try.prog.info? 22).map (fun i => (i.zero, i.size, i.bytes)) = some (some (.slice none 0 0), 1, 24) := by kernel_rfl
theorem OI.rowS {B B' : Nat} {X Y : World} {v w : Value} {xs : List Int} {n : Nat} {ys : List Value} (h : OI B X w xs) (ho : X.ownsRow B' 22 1 v n ys) (hg : X.grownBy Y v.ownBlock) : OI B Y w xs :=
  ⟨own_stay h.1 fun k hk => hg.block k (h.1.lt k hk).2 fun e => by
    rcases own_apart h.1 ho (by decide) with h0 | h0
    · rw [h0] at hk; cases hk
    · exact h0 (by rw [hk, e]), h.2⟩
/-- A table, where a row of slices grows that is younger than it. -/
theorem Tb.rowS {B B' T g : Nat} {X Y : World} {d me : Int} {vs : List (Option V5)} {ts : List (Option Cel)} {v : Value} {n : Nat} {ys : List Value} (h : Tb B X T g d me vs ts) (ho : X.ownsRow B' 22 1 v n ys) (hT : T < B') (hgB : g < B') (hg : X.grownBy Y v.ownBlock) : Tb B Y T g d me vs ts :=
  ⟨by
    have h1 := h.bx
    unfold Own at h1 ⊢
    rw [hg.block T h.bx.lt (fun e => by have := (ho.lt T e.symm).1; omega)]
    exact h1, ⟨by
    have h1 := h.tab.blk
    unfold Own at h1 ⊢
    rw [hg.block g h.tab.blk.lt (fun e => by have := (ho.lt g e.symm).1; omega)]
    exact h1, h.tab.len, fun i v t hv ht => (h.tab.at_ i v t hv ht).stay fun o => o.rowS ho hg⟩, h.hT, h.hg⟩
/-- Keys, a slice each. -/
def KsO (B : Nat) (w : World) (kv : Value) (us : List Value) (kl : List (List Int)) : Prop :=
  w.ownsRow B 22 1 kv us.length us ∧ us.length = kl.length ∧ ∀ (i : Nat) (u : Value) (k : List Int), us[i]? = some u → kl[i]? = some k → OI B w u k
theorem append_sl {B : Nat} {X : World} {kv : Value} {us : List Value} {kl : List (List Int)} {u : Value} {key : List Int} (h : KsO B X kv us kl) (hu : OI B X u key) (hl : us.length + 1 ≤ 1000000) (hB : B ≤ X.heap.size) :
    ∃ g c Y, (Builtin.append_ #[50, 50] 50 #[kv, .slice (some ⟨X.heap.size, 0, none⟩) 1 1]).run Try.prog (X.alloc (.cells #[u] 22)) = .ok (.slice (some ⟨g, 0, none⟩) (us.length + 1) c) Y ∧ KsO B Y (.slice (some ⟨g, 0, none⟩) (us.length + 1) c) (us ++ [u]) (kl ++ [key]) ∧
      Below B X Y ∧ ∀ T g d me vs ts, T < B → g < B → ∀ B', Tb B' X T g d me vs ts → Tb B' Y T g d me vs ts := by
  obtain ⟨ho, hk, hc⟩ := h
  have hb : Below X.heap.size X (X.alloc (.cells #[u] 22)) := (Below.refl _ _).alloc (Nat.le_refl _) _
  obtain ⟨i0, hi, hz0, hz1, hz2⟩ := info_parts infoSl
  have ho2 := own_below ho hb (Nat.le_refl _)
  have hone : u.oneCell' = true := by obtain ⟨P, c, rfl, -⟩ := hu.form; rfl
  obtain ⟨v', Y, hrun, hr, hg, -, -⟩ := run_append_own_at (P := Try.prog) (X.alloc (.cells #[u] 22)) B 50 50 22 i0 _ 1 24 Try.underlying50 hi hz0 hz1 hz2 rfl (by omega) kv us.length us ho2 ⟨X.heap.size, 0, none⟩ 1 1 [u] rfl
    (fun j w hw => by
      rw [add0, show (X.alloc (.cells #[u] 22)).cell? ⟨X.heap.size, j, none⟩ = #[u][j]? from cell_of_row _ _ _ _ 22 (0, 0) (heap_alloc_new X _)]
      simpa using hw) (by intro x hx; rw [List.mem_singleton] at hx; subst hx; exact hone) (by simp only [maxLen]; omega) (by omega) (by simp; omega)
  obtain ⟨g, c, e⟩ := ownsRow_succ hr
  subst e
  refine ⟨g, c, Y, hrun, ⟨by rw [List.length_append]; exact hr, by rw [List.length_append, List.length_append, hk]; rfl, fun i x k hx hkx => ?_⟩, (hb.mono hB).grown hg (by simp; omega) (fun j e => (ho.lt j e).1), fun T g d me vs ts hT hgB B' h => (h.below hb).rowS ho2 hT hgB hg⟩
  rcases Nat.lt_or_ge i us.length with hi2 | hi2
  · rw [List.getElem?_append_left hi2] at hx
    rw [List.getElem?_append_left (by omega)] at hkx
    exact ((hc i x k hx hkx).below hb).rowS ho2 hg
  · rw [List.getElem?_append_right hi2] at hx
    rw [List.getElem?_append_right (by omega)] at hkx
    have e0 : i - us.length = 0 := by
      rcases Nat.eq_zero_or_pos (i - us.length) with h | h
      · exact h
      · rw [List.getElem?_eq_none (by simp; omega)] at hx; cases hx
    rw [e0] at hx
    rw [← hk, e0] at hkx
    simp only [List.getElem?_cons_zero, Option.some.injEq] at hx hkx
    subst hx hkx
    exact (hu.below hb).rowS ho2 hg
theorem KsO.tch {B : Nat} {X Y : World} {kv : Value} {us : List Value} {kl : List (List Int)} {M : Nat → Prop} (h : KsO B X kv us kl) (ht : Tch M X Y) (hM : ∀ k, M k → k < B) : KsO B Y kv us kl :=
  ⟨own_stay h.1 fun k hk => ht.block k (h.1.lt k hk).2 fun e => by have := hM k e; have := (h.1.lt k hk).1; omega, h.2.1, fun i u k hu hk => (h.2.2 i u k hu hk).tchF ht hM⟩
theorem KsO.below {B : Nat} {X Y : World} {kv : Value} {us : List Value} {kl : List (List Int)} (h : KsO B X kv us kl) (hb : Below X.heap.size X Y) : KsO B Y kv us kl :=
  ⟨own_below h.1 hb (Nat.le_refl _), h.2.1, fun i u k hu hk => (h.2.2 i u k hu hk).below hb⟩
/-- Whose keys a table has. -/
def KeysT (ts : List (Option Cel)) (kl : List (List Int)) : Prop := kl.length = (cellsT ts).length ∧ ∀ q, q ∈ kl ↔ ∃ x ∈ cellsT ts, x.key = q
theorem keys_put {ts ts' : List (Option Cel)} {x : Cel} {kl : List (List Int)} (hI : InvT ts) (hk : KeysT ts kl) (h : putT ts x = some ts') : KeysT ts' (if x.key ∈ kl then kl else kl ++ [x.key]) := by
  have hl := put_len hI h
  have hm : ∀ q, (∃ y ∈ cellsT ts', y.key = q) ↔ (∃ y ∈ cellsT ts, y.key = q) ∨ q = x.key := by
    unfold putT at h
    cases hs : seekT ts x.key with
    | none => rw [hs] at h; cases h
    | some k =>
      rw [hs] at h
      simp only [Option.some.injEq] at h
      have hh := seekF_has hs
      obtain ⟨y, hy, hyk⟩ : ∃ y, ts' = ts.set k (some y) ∧ y.key = x.key := by
        refine ⟨_, h.symm, ?_⟩
        rcases hh with e | ⟨c, e, e2⟩
        · rw [e]
        · rw [e]; exact e2
      rcases hh with e | ⟨c, e, e2⟩
      · obtain ⟨a, b, h1, h2⟩ := cellsT_split e
        intro q
        rw [hy, h2, h1]
        simp only [List.mem_append, Option.toList_none, List.not_mem_nil, or_false, List.mem_singleton]
        constructor
        · rintro ⟨z, (hz | rfl) | hz, rfl⟩
          · exact .inl ⟨z, .inl hz, rfl⟩
          · exact .inr hyk
          · exact .inl ⟨z, .inr hz, rfl⟩
        · rintro (⟨z, hz | hz, rfl⟩ | rfl)
          · exact ⟨z, .inl (.inl hz), rfl⟩
          · exact ⟨z, .inr hz, rfl⟩
          · exact ⟨y, .inl (.inr rfl), hyk⟩
      · obtain ⟨a, b, h1, h2⟩ := cellsT_split e
        intro q
        rw [hy, h2, h1]
        simp only [List.mem_append, Option.toList_some, List.mem_singleton]
        constructor
        · rintro ⟨z, (hz | rfl) | hz, rfl⟩
          · exact .inl ⟨z, .inl (.inl hz), rfl⟩
          · exact .inr hyk
          · exact .inl ⟨z, .inr hz, rfl⟩
        · rintro (⟨z, (hz | rfl) | hz, rfl⟩ | rfl)
          · exact ⟨z, .inl (.inl hz), rfl⟩
          · exact ⟨y, .inl (.inr rfl), by rw [hyk, e2]⟩
          · exact ⟨z, .inr hz, rfl⟩
          · exact ⟨y, .inl (.inr rfl), hyk⟩
  by_cases hin : x.key ∈ kl
  · rw [if_pos hin]
    refine ⟨by rw [hl, if_pos ((hk.2 _).1 hin), hk.1], fun q => ?_⟩
    rw [hm, ← hk.2]
    constructor
    · exact .inl
    · rintro (h | rfl)
      · exact h
      · exact hin
  · rw [if_neg hin]
    refine ⟨by rw [hl, if_neg (fun h => hin ((hk.2 _).2 h)), List.length_append, hk.1]; rfl, fun q => ?_⟩
    rw [hm, ← hk.2, List.mem_append, List.mem_singleton]
theorem put_all {ts ts' : List (Option Cel)} {x : Cel} {Q : Cel → Prop} (h : putT ts x = some ts') (h1 : ∀ y ∈ cellsT ts, Q y) (h2 : Q x) (h3 : ∀ c, Q c → Q (join2 c x)) : ∀ y ∈ cellsT ts', Q y := by
  unfold putT at h
  cases hs : seekT ts x.key with
  | none => rw [hs] at h; cases h
  | some k =>
    rw [hs] at h
    simp only [Option.some.injEq] at h
    rcases seekF_has hs with e | ⟨c, e, e2⟩
    · obtain ⟨a, b, g1, g2⟩ := cellsT_split e
      rw [e] at h
      intro y hy
      rw [← h, g2] at hy
      rw [g1] at h1
      simp only [List.mem_append, Option.toList_none, List.not_mem_nil, or_false, List.mem_singleton] at hy h1
      rcases hy with (hy | rfl) | hy
      · exact h1 y (.inl hy)
      · exact h2
      · exact h1 y (.inr hy)
    · obtain ⟨a, b, g1, g2⟩ := cellsT_split e
      rw [e] at h
      intro y hy
      rw [← h, g2] at hy
      rw [g1] at h1
      simp only [List.mem_append, Option.toList_some, List.mem_singleton] at hy h1
      rcases hy with (hy | rfl) | hy
      · exact h1 y (.inl (.inl hy))
      · exact h3 c (h1 c (.inl (.inr rfl)))
      · exact h1 y (.inr hy)
theorem tdiv_in {y : Int} (h : inK .i64 y) : inK .i64 (y.tdiv 16) := by
  have h1 := Int.natAbs_tdiv y 16
  have h2 : y.natAbs / 16 ≤ y.natAbs := Nat.div_le_self _ _
  obtain ⟨a, b⟩ := h
  have h3 : (y.tdiv 16).natAbs ≤ y.natAbs / 16 := by rw [h1]; exact Nat.le_refl _
  exact ⟨by omega, by omega⟩
set_option maxRecDepth 100000 in
set_option maxHeartbeats 8000000 in
theorem hashFull_walk (a0 : Int) (a1 : Option Addr) (len1 cap1 : Nat) (z1 : List Int) (w : World) (h0 : inK .i64 a0) (w1 : IsRow .i64 w a1 len1 cap1 z1) :
    Calls Try.prog 5 #[.int .i64 a0, .slice a1 len1 cap1] w fun e w' => e = .returned (.bool true) ∧ Below w.heap.size w w' := by
  obtain ⟨n1, lc1, cm1⟩ := w1.nums
  generalize z1.take len1 = zs at n1
  have N1 := Lib.hid n1
  have HKn := Lib.hid (hknown_any w)
  clear w1 n1
  go_enter Try.func5, Try.ntmps5
  go_wp2_with fail
  refine HKn.out.mono ?_
  rintro e w1 ⟨rfl, hb1⟩
  have Hb1 := Lib.hid hb1
  clear hb1 HKn
  obtain ⟨nn, hnn⟩ : ∃ nn : Nat, (nn : Int) = a0 % 40 := ⟨(a0 % 40).toNat, by omega⟩
  have hn40 : nn < 40 := by omega
  obtain ⟨N, hN⟩ : ∃ N, N = nn + 1 := ⟨_, rfl⟩
  have hNw : IntKind.i64.wrap (1 + (nn : Int)) = (N : Int) := by rw [IntWalk.i64_in _ (by omega), hN]; push_cast; omega
  have hN2 : 1 ≤ N ∧ N ≤ 40 := by omega
  have HNN := Lib.hid hnn
  have HW16 := Lib.hid (fun (x : Int) (W : World) (h : inK .i64 x) => lwithin7 x 16 W h (by omega) (by omega))
  clear hnn hN hn40
  go_wp2_with fail
  refine (lwithin7 a0 40 w1 h0 (by omega) (by omega)).mono ?_
  rintro e w' ⟨rfl, hw'⟩
  rw [← hw']
  clear hw'
  clear w'
  rw [← HNN.out]
  go_wp2_with fail
  refine (hNew_tb N w1 (by omega) (by omega)).mono ?_
  rintro e w2 ⟨T, g, rfl, hT2, hb2⟩
  have hTg : w1.heap.size ≤ T ∧ w1.heap.size ≤ g := ⟨hT2.hT, hT2.hg⟩
  have hTl : T < w2.heap.size := hT2.bx.lt
  have hgl : g < w2.heap.size := hT2.tab.blk.lt
  have HT2 := Lib.hid hT2
  have Hb2 := Lib.hid hb2
  have hM2 : ∀ q, (q = g ∨ q = T) → q < w2.heap.size := fun q hq => by rcases hq with h | h <;> omega
  have h12 : w1.heap.size ≤ w2.heap.size := hb2.size
  clear hT2 hb2
  go_upto_block 0 with (fail)
  go_cut [7] (fun kv wr => ∃ (us : List Value) (kl : List (List Int)) (vs : List (Option V5)) (ts : List (Option Cel)) (d : Int), KsO w2.heap.size wr kv us kl ∧ Tb w1.heap.size wr T g d 0 vs ts ∧ ts.length = N ∧ KeysT ts kl ∧ (∀ y ∈ cellsT ts, y.key.length = 2 ∧ EvenC 0 y) ∧ Below w1.heap.size w1 wr)
  case first =>
    go_wp2_with fail
    go_loopw [7, 8] (fun kv i wr => ∃ (j : Nat) (us : List Value) (kl : List (List Int)) (vs : List (Option V5)) (ts : List (Option Cel)) (d : Int), i = .int .i64 j ∧ j ≤ len1 ∧ j ≤ 90 ∧ KsO w2.heap.size wr kv us kl ∧ Tb w1.heap.size wr T g d 0 vs ts ∧ ts.length = N ∧ InvT ts ∧ KeysT ts kl ∧ ((cellsT ts).length = 0 ∨ d = 2) ∧ (∀ y ∈ cellsT ts, y.key.length = 2 ∧ EvenC 0 y) ∧ Below w1.heap.size w1 wr ∧ w2.heap.size ≤ wr.heap.size) (fun _ i _ => len1 - (intOf i).toNat)
    case atStart => exact ⟨0, [], [], _, _, _, rfl, Nat.zero_le _, Nat.zero_le _, ⟨World.ownsRow_nil _ _ _ _, rfl, fun i u k hu => by simp at hu⟩, HT2.out, by rw [List.length_replicate], inv_new N, ⟨by rw [cells_new]; rfl, fun q => by rw [cells_new]; simp⟩, .inl (by rw [cells_new]; rfl), fun y hy => by rw [cells_new] at hy; simp at hy, Hb2.out, Nat.le_refl _⟩
    case round =>
      obtain ⟨j, us, kl, vs, ts, d, rfl, hj, hj90, hK, hT, hN, hI, hKT, hd, hall, hb, hz⟩ := hrel
      rename World => wr
      obtain ⟨Pk, ck, rfl, -⟩ := own_form hK.1
      obtain ⟨nk, hnk⟩ : ∃ nk, nk = us.length := ⟨_, rfl⟩
      rw [← hnk] at hK ⊢
      have hnc : nk = (cellsT ts).length := by rw [hnk, hK.2.1, hKT.1]
      have hnN : nk ≤ N := by rw [hnc, ← hN]; exact cells_le ts
      by_cases hlt : j < len1 ∧ j < 90
      · obtain ⟨hl1, hl2⟩ := hlt
        have i0 : (0 : Int) ≤ (j : Int) := by omega
        have i1 : (j : Int) < (len1 : Int) := by omega
        have i2 : (j : Int) < 90 := by omega
        have d1 : decide ((j : Int) < (len1 : Int)) = true := decide_eq_true i1
        have d2 : decide ((j : Int) < 90) = true := decide_eq_true i2
        obtain ⟨ad, y, rfl, hy, hyk, hyc⟩ := (N1.out.keep (Keeps.of_below (Hb1.out.trans (hb.mono Hb1.out.size)))).at_ hl1
        have Hy := Lib.hid hyk
        obtain ⟨zd, hzd⟩ : ∃ zd, zd = y.tdiv 16 := ⟨_, rfl⟩
        have hzk : inK .i64 zd := by rw [hzd]; exact tdiv_in hyk
        have hzw : IntKind.i64.wrap (y.tdiv 16) = zd := by
          rw [← hzd]
          exact IntWalk.i64_in _ (by obtain ⟨a, b⟩ := hzk; omega)
        have Hyd := Lib.hid hzk
        clear hzk hzd
        obtain ⟨key, hkey⟩ : ∃ key, key = [y % 16, zd % 16] := ⟨_, rfl⟩
        obtain ⟨w5, hw5⟩ : ∃ w5, w5 = (wr.alloc (.cells #[.int .i64 (y % 16), .int .i64 (zd % 16)] 3)).drew := ⟨_, rfl⟩
        have HW5 := Lib.hid hw5
        have HKEY := Lib.hid hkey
        have HK := Lib.hid hK
        have HT := Lib.hid hT
        have HI := Lib.hid hI
        have HKT := Lib.hid hKT
        have HD := Lib.hid hd
        have HA := Lib.hid hall
        have Hb := Lib.hid hb
        have HNK := Lib.hid hnk
        have HNC := Lib.hid hnc
        clear hw5 hkey hK hT hI hKT hd hall hb hnk hnc hy hyk
        go_upto_region 11 with (fail)
        refine wp_region_held_drew (S := fun W => W.cell? (ad.add j) = some (.int .i64 y)) (by kernel_rfl) hyc (fun hHeld => ?_)
        refine wpAnyH_take (i := 0) (v := ?vpa0) rfl (by kernel_rfl) (by kernel_rfl) (by kernel_rfl) (fun _ _ _ h => h) (Or.inl ⟨by rfl, ?ypa0⟩) hHeld ?rpa0
        case ypa0 => (intro W hW; obtain h0 := hW; go_simp; first | done | with_reducible rfl)
        try simp only [List.getElem_toArray, List.getElem_cons_zero, Act.put, List.setIfInBounds_toArray, List.set_cons_zero, List.set_cons_succ]
        refine wpAnyH_take (i := 1) (v := ?vpa1) rfl (by kernel_rfl) (by kernel_rfl) (by kernel_rfl) (fun _ _ _ h => h) (Or.inl ⟨by rfl, ?ypa1⟩) hHeld ?rpa1
        case ypa1 => (intro W hW; obtain h0 := hW; go_simp; first | done | with_reducible rfl)
        try simp only [List.getElem_toArray, List.getElem_cons_succ, List.getElem_cons_zero, Act.put, List.setIfInBounds_toArray, List.set_cons_zero, List.set_cons_succ]
        refine wpAnyH_take (i := 2) (v := ?vpa2) rfl (by kernel_rfl) (by kernel_rfl) (by kernel_rfl) (fun _ _ _ h => h) (Or.inl ⟨by rfl, ?ypa2⟩) hHeld ?rpa2
        case ypa2 => (intro W hW; obtain h0 := hW; go_simp; first | done | with_reducible rfl)
        try simp only [List.getElem_toArray, List.getElem_cons_succ, List.getElem_cons_zero, Act.put, List.setIfInBounds_toArray, List.set_cons_zero, List.set_cons_succ]
        refine wpAnyH_take (i := 3) (v := ?vpa3) rfl (by kernel_rfl) (by kernel_rfl) (by kernel_rfl) (fun _ _ _ h => h) (Or.inl ⟨by rfl, ?ypa3⟩) hHeld ?rpa3
        case ypa3 => (intro W hW; obtain h0 := hW; go_simp; first | done | with_reducible rfl)
        try simp only [List.getElem_toArray, List.getElem_cons_succ, List.getElem_cons_zero, Act.put, List.setIfInBounds_toArray, List.set_cons_zero, List.set_cons_succ]
        refine wpAnyH_take (i := 5) (v := ?vpa5) rfl (by kernel_rfl) (by kernel_rfl) (by kernel_rfl) (fun _ _ _ h => h) (Or.inl ⟨by rfl, ?ypa5⟩) hHeld ?rpa5
        case ypa5 => (intro W hW; obtain h0 := hW; go_simp; first | done | with_reducible rfl)
        try simp only [List.getElem_toArray, List.getElem_cons_succ, List.getElem_cons_zero, Act.put, List.setIfInBounds_toArray, List.set_cons_zero, List.set_cons_succ]
        refine wpAnyH_take (i := 6) (v := ?vpa6) rfl (by kernel_rfl) (by kernel_rfl) (by kernel_rfl) (fun _ _ _ h => h) (Or.inl ⟨by rfl, ?ypa6⟩) hHeld ?rpa6
        case ypa6 => (intro W hW; obtain h0 := hW; go_simp; first | done | with_reducible rfl)
        try simp only [List.getElem_toArray, List.getElem_cons_succ, List.getElem_cons_zero, Act.put, List.setIfInBounds_toArray, List.set_cons_zero, List.set_cons_succ]
        refine wpAnyH_take (i := 7) (v := ?vpa7) rfl (by kernel_rfl) (by kernel_rfl) (by kernel_rfl) (fun _ _ _ h => h) (Or.inl ⟨by rfl, ?ypa7⟩) hHeld ?rpa7
        case ypa7 => (intro W hW; obtain h0 := hW; go_simp; first | done | with_reducible rfl)
        try simp only [List.getElem_toArray, List.getElem_cons_succ, List.getElem_cons_zero, Act.put, List.setIfInBounds_toArray, List.set_cons_zero, List.set_cons_succ]
        refine wpAnyH_take (i := 8) (v := ?vpa8) rfl (by kernel_rfl) (by kernel_rfl) (by kernel_rfl) (fun _ _ _ h => h) (Or.inl ⟨by rfl, ?ypa8⟩) hHeld ?rpa8
        case ypa8 => (intro W hW; obtain h0 := hW; go_simp; first | done | with_reducible rfl)
        try simp only [List.getElem_toArray, List.getElem_cons_succ, List.getElem_cons_zero, Act.put, List.setIfInBounds_toArray, List.set_cons_zero, List.set_cons_succ]
        refine wpAnyH_take (i := 9) (v := ?vpa9) rfl (by kernel_rfl) (by kernel_rfl) (by kernel_rfl) (fun _ _ _ h => h) (Or.inl ⟨by rfl, ?ypa9⟩) hHeld ?rpa9
        case ypa9 => (intro W hW; obtain h0 := hW; go_simp; first | done | with_reducible rfl)
        try simp only [List.getElem_toArray, List.getElem_cons_succ, List.getElem_cons_zero, Act.put, List.setIfInBounds_toArray, List.set_cons_zero, List.set_cons_succ]
        refine wpAnyH_ready (rs := [4]) (by kernel_rfl) (by simp) ?_
        refine AllReadyH.cons rfl (fun K hK => ?_) (AllReadyH.nil)
        go_simp
        refine (HW16.out y _ Hy.out).mono ?_
        rintro e6 w' ⟨rfl, hw'⟩
        rw [← hw']
        clear hw'
        clear w'
        refine hK.out _ _ (hHeld) (fun hHeld => ?_)
        clear hK K
        try simp only [List.getElem_toArray, List.getElem_cons_succ, List.getElem_cons_zero, Act.put, List.setIfInBounds_toArray, List.set_cons_zero, List.set_cons_succ]
        refine wpAnyH_ready (rs := [10]) (by kernel_rfl) (by simp) ?_
        refine AllReadyH.cons rfl (fun K hK => ?_) (AllReadyH.nil)
        go_simp
        refine (HW16.out zd _ Hyd.out).mono ?_
        rintro e6 w' ⟨rfl, hw'⟩
        rw [← hw']
        clear hw'
        clear w'
        refine hK.out _ _ (hHeld) (fun hHeld => ?_)
        clear hK K
        try simp only [List.getElem_toArray, List.getElem_cons_succ, List.getElem_cons_zero, Act.put, List.setIfInBounds_toArray, List.set_cons_zero, List.set_cons_succ]
        have kal : Keeps wr.drew (wr.drew.alloc (.cells #[.int .i64 (y % 16), .int .i64 (zd % 16)] 3)) := (Keeps.refl _).alloc _
        refine wpAnyH_ready (rs := [11]) (by kernel_rfl) (by simp) ?_
        refine AllReadyH.cons rfl (fun K hK => ?_) (AllReadyH.nil)
        go_simp
        refine hK.out _ _ ((kal _ _ hHeld)) (fun hHeld => ?_)
        clear hK K
        try simp only [List.getElem_toArray, List.getElem_cons_succ, List.getElem_cons_zero, Act.put, List.setIfInBounds_toArray, List.set_cons_zero, List.set_cons_succ]
        refine wpAnyH_take (i := 12) (v := ?vpa12) rfl (by kernel_rfl) (by kernel_rfl) (by kernel_rfl) (fun _ _ _ h => h) (Or.inl ⟨by rfl, ?ypa12⟩) hHeld ?rpa12
        case ypa12 => (intro W hW; obtain h0 := hW; go_simp; first | done | with_reducible rfl)
        try simp only [List.getElem_toArray, List.getElem_cons_succ, List.getElem_cons_zero, Act.put, List.setIfInBounds_toArray, List.set_cons_zero, List.set_cons_succ]
        refine wpAnyH_done (by kernel_rfl) ?_ _
        obtain ⟨b, eb⟩ : ∃ b, b = wr.heap.size := ⟨_, rfl⟩
        have hOa : OI w2.heap.size (wr.alloc (.cells #[.int .i64 (y % 16), .int .i64 (zd % 16)] 3)) (.slice (some ⟨b, 0, none⟩) 2 2) key := by
          rw [eb, HKEY.out]
          refine ⟨⟨by simp [ints], .inr ⟨wr.heap.size, 2, _, rfl, hz, heap_alloc_new wr _, Nat.le_refl _, by simp [maxLen], rfl, by simp [ints]⟩⟩, fun v hv => ?_⟩
          simp only [List.mem_cons, List.not_mem_nil, or_false] at hv
          rcases hv with rfl | rfl
          · exact ⟨by omega, by omega⟩
          · exact ⟨by omega, by omega⟩
        have hO5 : OI w2.heap.size w5 (.slice (some ⟨b, 0, none⟩) 2 2) key := by rw [HW5.out]; exact hOa.below (Below.refl _ _).drew
        have hb5 : Below wr.heap.size wr w5 := by rw [HW5.out]; exact ((Below.refl _ _).alloc (Nat.le_refl _) _).drew
        rw [← HW5.out, ← eb]
        have hkl : key.length = 2 := by rw [HKEY.out]; rfl
        have hok : okK key = true := by
          unfold okK
          rw [List.all_eq_true, HKEY.out]
          intro v hv
          simp only [List.mem_cons, List.not_mem_nil, or_false] at hv
          apply decide_eq_true
          rcases hv with rfl | rfl <;> omega
        have HKL := Lib.hid hkl
        have HOKK := Lib.hid hok
        have HO5 := Lib.hid hO5
        have Hb5 := Lib.hid hb5
        clear hHeld hyc kal hOa hO5 hb5 hkl hok hzw eb
        go_upto_block 2 with (fail)
        go_cut [10] (fun v wx => v = .bool (decide (key ∈ kl)) ∧ Below w5.heap.size w5 wx)
        case first =>
          go_wp2_with fail
          go_loopw [10, 11] (fun v i wx => ∃ q : Nat, i = .int .i64 q ∧ q ≤ nk ∧ v = .bool (decide (key ∈ kl.take q)) ∧ Below w5.heap.size w5 wx) (fun _ i _ => nk - (intOf i).toNat)
          case atStart => exact ⟨0, rfl, Nat.zero_le _, by simp, Below.refl _ _⟩
          case round =>
            obtain ⟨q, rfl, hq, rfl, hbx⟩ := hrel
            rename World => wx
            by_cases hqn : q < nk
            · have q0 : (0 : Int) ≤ (q : Int) := by omega
              have q1 : (q : Int) < (nk : Int) := by omega
              have q2 : decide ((q : Int) < (nk : Int)) = true := decide_eq_true q1
              have hKx := (HK.out.below Hb5.out).below hbx
              obtain ⟨uq, huq⟩ : ∃ uq, us[q]? = some uq := ⟨_, List.getElem?_eq_getElem (by rw [← HNK.out]; exact hqn)⟩
              obtain ⟨kq, hkq⟩ : ∃ kq, kl[q]? = some kq := ⟨_, List.getElem?_eq_getElem (by rw [← hKx.2.1, ← HNK.out]; exact hqn)⟩
              obtain ⟨Pq, cq, rfl, -, -, nq, -⟩ := (hKx.2.2 q uq kq huq hkq).form
              obtain ⟨P2, c2, hv, -, -, h5⟩ := own_form hKx.1
              injection hv with hv1 hv2 hv3
              subst hv1
              obtain ⟨gk, rfl, h6, hcell⟩ := h5 (by rw [← HNK.out]; omega)
              have hcq := hcell q _ huq
              obtain ⟨Pz, cz, ez, -, -, nz, -⟩ := (HO5.out.below hbx).form
              injection ez with ez1 ez2 ez3
              subst ez1 ez3
              rw [HKL.out] at nz
              clear ez2
              have hkq2 : kq.length = 2 := by
                have h1 : kq ∈ kl := List.mem_of_getElem? hkq
                obtain ⟨x, hx, e⟩ := (HKT.out.2 kq).1 h1
                rw [← e]; exact (HA.out x hx).1
              rw [hkq2] at nq hcq
              have hLS := Lib.hid (rLess Pq (some ⟨b, 0, none⟩) 2 cq 2 2 kq key wx nq nz (by omega) (by omega))
              have hmem : decide (key ∈ kl.take (q + 1)) = (decide (key ∈ kl.take q) || decide (key = kq)) := by
                rw [List.take_add_one, hkq, Option.toList_some]
                simp [List.mem_append]
              have HMEM := Lib.hid hmem
              have Hbx := Lib.hid hbx
              clear hKx huq hkq nq h5 h6 hcell nz hv2 hv3 hmem hbx
              obtain ⟨tt, htt⟩ : ∃ tt, tt = decide (key ∈ kl.take q) := ⟨_, rfl⟩
              rw [← htt] at HMEM ⊢
              clear htt
              cases tt with
              | true =>
                have HM' : Hid (decide (key ∈ kl.take (q + 1)) = true) := Lib.hid (by rw [HMEM.out]; rfl)
                clear hLS
                go_wp2
                go_roundw
                case rel => exact ⟨q + 1, by go_num, by omega, by rw [HM'.out], Hbx.out⟩
                case measure => simp [intOf]; omega
              | false =>
                go_wp2_with fail
                refine hLS.out.mono ?_
                rintro e w' ⟨rfl, qn, rfl⟩
                have HbL := Lib.hid (Hbx.out.trans (below_drewN (Below.refl _ wx) qn |>.mono Hbx.out.size))
                by_cases he : key = kq
                · have HM' : Hid (decide (key ∈ kl.take (q + 1)) = true) := Lib.hid (by rw [HMEM.out, decide_eq_true he]; rfl)
                  have e0 : (cmpL kq key == 0) = true := by rw [he, cmpL_self]; rfl
                  clear he
                  go_wp2
                  go_roundw
                  case rel => exact ⟨q + 1, by go_num, by omega, by rw [HM'.out], HbL.out⟩
                  case measure => simp [intOf]; omega
                · have HM' : Hid (decide (key ∈ kl.take (q + 1)) = false) := Lib.hid (by rw [HMEM.out, decide_eq_false he]; rfl)
                  have e0 : (cmpL kq key == 0) = false := by rw [beq_eq_false_iff_ne]; exact fun h => he (cmpL_zero.1 h).symm
                  clear he
                  go_wp2
                  go_roundw
                  case rel => exact ⟨q + 1, by go_num, by omega, by rw [HM'.out], HbL.out⟩
                  case measure => simp [intOf]; omega
            · obtain rfl : q = nk := by omega
              have q2 : decide ((q : Int) < (q : Int)) = false := by simp
              have HTA : Hid (kl.take q = kl) := Lib.hid (List.take_of_length_le (by rw [HNK.out, HK.out.2.1]; exact Nat.le_refl _))
              rw [HTA.out]
              have Hbx := Lib.hid hbx
              clear hbx
              go_wp2
              go_meet
              exact ⟨rfl, Hbx.out⟩
        case rest =>
          obtain ⟨rfl, hbx⟩ := hcut
          rename World => wx
          have hbw : Below wr.heap.size wr wx := Hb5.out.trans (hbx.mono Hb5.out.size)
          have hTx := HT.out.below hbw
          have hKx := HK.out.below hbw
          have hOx := HO5.out.below hbx
          have hzx : w2.heap.size ≤ wx.heap.size := Nat.le_trans hz hbw.size
          have hbt : Below w1.heap.size w1 wx := Hb.out.trans (hbw.mono Hb.out.size)
          have P1 := hPut_any w1.heap.size T g d 0 0 vs ts (.slice (some ⟨b, 0, none⟩) 2 2) (.slice none 0 0) (.slice none 0 0) (.slice none 0 0) ⟨key, 1, [], [], []⟩ wx hTx (by omega) (by omega) (fun i y hy => by
            have := HA.out y (mem_cells.2 ⟨i, hy⟩)
            exact ⟨by omega, this.2⟩) (HD.out.imp id fun e => ⟨by rw [e]; show (2 : Int) = ((key.length : Nat) : Int); rw [HKL.out]; rfl, rfl⟩) ⟨hOx.ri, nil_ri _, nil_ri _, nil_ri _⟩ (by show inK .i64 (1 : Int); exact ⟨by decide, by decide⟩) (by show key.length ≤ 1000; rw [HKL.out]; omega) HOKK.out ⟨rfl, rfl, rfl⟩ (by omega)
          have HP1 := Lib.hid P1
          have HKx := Lib.hid hKx
          have HOx := Lib.hid hOx
          have HTx := Lib.hid hTx
          have Hbt := Lib.hid hbt
          have hdnn : ((nk : Int) != (nk : Int)) = false := by simp
          clear hbx hbw hTx hKx hOx hbt P1
          cases hput : putT ts ⟨key, 1, [], [], []⟩ with
          | none =>
            obtain ⟨g1, g2⟩ := put_none hput
            have hin : ¬ key ∈ kl := fun h => by
              obtain ⟨x, hx, e⟩ := (HKT.out.2 key).1 h
              exact g2 x hx e
            have d3 : decide ((nk : Int) < (N : Int)) = false := decide_eq_false (by have := HNC.out; omega)
            have d4 : decide (nk < N) = false := decide_eq_false (by have := HNC.out; omega)
            have d5 : ¬ nk < N := by have := HNC.out; omega
            rw [decide_eq_false hin]
            have HPUT := Lib.hid hput
            clear g1 g2 hin hput
            go_wp2_with fail
            refine HP1.out.mono ?_
            rintro e w6 hp6
            obtain ⟨rfl, hb6⟩ := hPut_no hp6 HPUT.out
            have HT6 := Lib.hid (HTx.out.below hb6)
            have HK6 := Lib.hid (HKx.out.below hb6)
            have HB6 := Lib.hid (Hbt.out.trans (hb6.mono Hbt.out.size))
            have hz6 := Nat.le_trans hzx hb6.size
            clear hb6 hp6 HP1
            go_wp2_with fail
            refine (hLen_any w1.heap.size T g _ _ vs ts w6 HT6.out).mono ?_
            rintro e w' ⟨rfl, hw'⟩
            rw [← hw', ← HNC.out]
            clear hw'
            clear w'
            go_wp2
            go_roundw
            case rel => exact ⟨j + 1, us, kl, vs, ts, d, by go_num, by omega, by omega, HK6.out, HT6.out, hN, HI.out, HKT.out, HD.out, HA.out, HB6.out, hz6⟩
            case measure => simp [intOf]; omega
          | some ts' =>
            have kp := keys_put HI.out HKT.out hput
            have hall' := put_all (Q := fun y => y.key.length = 2 ∧ EvenC 0 y) hput HA.out ⟨HKL.out, rfl, rfl, rfl⟩ (fun c hc => ⟨hc.1, by simp [join2, addL], by simp [join2, minL], by simp [join2, maxL]⟩)
            obtain ⟨hI', -, hl'⟩ := put_grp HI.out hput
            have hiff := (put_iff ⟨key, 1, [], [], []⟩).1 ⟨ts', hput⟩
            have hN' : ts'.length = N := by rw [hl', hN]
            have HPUT := Lib.hid hput
            have HALL' := Lib.hid hall'
            have HI' := Lib.hid hI'
            have hd2 : (((key.length : Nat) : Int)) = 2 := by rw [HKL.out]; rfl
            clear hput hall' hI' hl'
            by_cases hin : key ∈ kl
            · rw [if_pos hin] at kp
              have HKP := Lib.hid kp
              have hcl : (cellsT ts').length = nk := by rw [← kp.1, HNC.out, HKT.out.1]
              rw [decide_eq_true hin]
              clear kp hin hiff
              go_wp2_with fail
              refine HP1.out.mono ?_
              rintro e w6 hp6
              obtain ⟨rfl, vs6, hT6, hb6, ht6⟩ := hPut_yes hp6 HPUT.out (Nat.le_trans h12 hzx) hTg.2 hTg.1
              have HT6 : Hid (Tb w1.heap.size w6 T g (key.length : Nat) 0 vs6 ts') := Lib.hid hT6
              rw [hd2] at HT6
              have HK6 := Lib.hid (HKx.out.tch ht6 hM2)
              have HB6 := Lib.hid (Hbt.out.trans hb6)
              have hz6 := Nat.le_trans hzx ht6.size
              clear hb6 hp6 HP1 hT6 ht6 hd2
              go_wp2_with fail
              refine (hLen_any w1.heap.size T g _ _ vs6 ts' w6 HT6.out).mono ?_
              rintro e w' ⟨rfl, hw'⟩
              rw [← hw', hcl]
              clear hw'
              clear w'
              go_wp2
              go_roundw
              case rel => exact ⟨j + 1, us, kl, vs6, ts', 2, by go_num, by omega, by omega, HK6.out, HT6.out, hN', HI'.out, HKP.out, .inr rfl, HALL'.out, HB6.out, hz6⟩
              case measure => simp [intOf]; omega
            · rw [if_neg hin] at kp
              have HKP := Lib.hid kp
              obtain ⟨n1, hn1⟩ : ∃ n1, n1 = nk + 1 := ⟨_, rfl⟩
              have hcl : (cellsT ts').length = n1 := by rw [← kp.1, List.length_append, HKT.out.1, hn1, HNC.out]; rfl
              have hlt2 : nk < N := by
                rcases hiff with ⟨x, hx, e⟩ | h
                · exact absurd ((HKT.out.2 key).2 ⟨x, hx, e⟩) hin
                · have := HNC.out; omega
              have d3 : decide ((nk : Int) < (N : Int)) = true := decide_eq_true (by omega)
              have d11 : ((n1 : Int) != (n1 : Int)) = false := by simp
              rw [decide_eq_false hin]
              clear kp hin hiff
              go_wp2_with fail
              refine HP1.out.mono ?_
              rintro e w6 hp6
              obtain ⟨rfl, vs6, hT6, hb6, ht6⟩ := hPut_yes hp6 HPUT.out (Nat.le_trans h12 hzx) hTg.2 hTg.1
              have HT6 : Hid (Tb w1.heap.size w6 T g (key.length : Nat) 0 vs6 ts') := Lib.hid hT6
              rw [hd2] at HT6
              have hz6 := Nat.le_trans hzx ht6.size
              obtain ⟨g9, c9, Y, hrun, hKY, hbY, hTY⟩ := append_sl (HKx.out.tch ht6 hM2) (HOx.out.tchF ht6 hM2) (by have := HNK.out; omega) hz6
              rw [← HNK.out, ← hn1] at hrun hKY
              have Hrun := Lib.hid hrun
              have HKY := Lib.hid hKY
              have HTY := Lib.hid (hTY T g _ _ _ _ hTl hgl _ HT6.out)
              have HBY := Lib.hid ((Hbt.out.trans hb6).trans (hbY.mono h12))
              have hzY := Nat.le_trans hz6 hbY.size
              clear hb6 hp6 HP1 hT6 ht6 hd2 hrun hKY hbY hTY hn1
              go_wp2_with (first | (at_builtin; have _t := Hrun; refine wpList_append_eq rfl (.tmp 79) (.tmp 81) 50 rfl _ _ _ _ rfl rfl Hrun.out ?_; clear _t Hrun) | fail)
              refine (hLen_any w1.heap.size T g _ _ vs6 ts' Y HTY.out).mono ?_
              rintro e w' ⟨rfl, hw'⟩
              rw [← hw', hcl]
              clear hw'
              clear w'
              go_wp2
              go_roundw
              case rel => exact ⟨j + 1, us ++ [.slice (some ⟨b, 0, none⟩) 2 2], kl ++ [key], vs6, ts', 2, by go_num, by omega, by omega, HKY.out, HTY.out, hN', HI'.out, HKP.out, .inr rfl, HALL'.out, HBY.out, hzY⟩
              case measure => simp [intOf]; omega
      · have HK := Lib.hid hK
        have HT := Lib.hid hT
        have HKT := Lib.hid hKT
        have HA := Lib.hid hall
        have Hb := Lib.hid hb
        clear hK hT hKT hall hb hd hI hnk hnc
        by_cases hl1 : j < len1
        · have d1 : decide ((j : Int) < (len1 : Int)) = true := decide_eq_true (by omega)
          have d2 : decide ((j : Int) < 90) = false := decide_eq_false (by omega)
          go_wp2
          go_meet
          exact ⟨us, kl, vs, ts, d, HK.out, HT.out, hN, HKT.out, HA.out, Hb.out⟩
        · have d1 : decide ((j : Int) < (len1 : Int)) = false := decide_eq_false (by omega)
          go_wp2
          go_meet
          exact ⟨us, kl, vs, ts, d, HK.out, HT.out, hN, HKT.out, HA.out, Hb.out⟩
  case rest =>
    obtain ⟨us, kl, vs, ts, d, hK, hT, hN, hKT, hall, hb⟩ := hcut
    rename World => wr
    obtain ⟨Pk, ck, rfl, -⟩ := own_form hK.1
    obtain ⟨nk, hnk⟩ : ∃ nk, nk = us.length := ⟨_, rfl⟩
    rw [← hnk]
    have hnc : (cellsT ts).length = nk := by rw [hnk, hK.2.1, hKT.1]
    have HC := Lib.hid (hCells_any w1.heap.size T g d 0 vs ts wr hT (by omega) (fun x hx => by
      obtain ⟨e1, e2, e3, e4⟩ := hall x hx
      exact ⟨by omega, by omega, by omega, by omega⟩))
    have Hb := Lib.hid (Hb1.out.trans (hb.mono Hb1.out.size))
    have hnn : ((nk : Int) == (nk : Int)) = true := by simp
    have HNC := Lib.hid hnc
    clear hK hT hN hKT hall hb hnk hnc
    go_wp2_with fail
    refine HC.out.mono ?_
    rintro e w9 ⟨v, us9, rfl, gr, b9⟩
    obtain ⟨P9, c9, f9, -⟩ := gr.form
    have l9 : us9.length = nk := by rw [gr.len, HNC.out]
    rw [l9] at f9
    subst f9
    have B9 := Lib.hid (Hb.out.trans (b9.mono Hb.out.size))
    clear gr b9 l9
    go_wp2
    go_ret
    exact ⟨rfl, B9.out⟩
end Go.Proofs.Ytgjcbbpmcojcoaa
