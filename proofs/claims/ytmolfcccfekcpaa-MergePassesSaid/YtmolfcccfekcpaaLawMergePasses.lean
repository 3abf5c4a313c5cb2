/- Rows of runs that a law lays itself; what lists that rise come to. -/
import Derived.IntWalk
import Derived.Test.YtmolfcccfekcpaaRrow6
import Derived.Test.YtmolfcccfekcpaaGood5
import Derived.Test.YtmolfcccfekcpaaMath5
import Derived.Test.YtmolfcccfekcpaaFactsLaw2
import Derived.Test.YtmolfcccfekcpaaSet
import Derived.Test.YtmolfcccfekcpaaIsRow
import Derived.Test.YtmolfcccfekcpaaRfacts
namespace Go.Proofs.Ytmolfcccfekcpaa
open Go.RowKit Go.Shelf
theorem rcc_list {X : World} {b n : Nat} {vs : List Value} {Js : List (List Cel)} (o : Own 31 X b vs) (h : ∀ (i : Nat) (J : List Cel), Js[i]? = some J → ∃ Pi ci, vs[i]? = some (Value.slice Pi J.length ci) ∧ RowC X Pi J.length J ∧ J.length ≤ ci) : RCc X (some ⟨b, 0, none⟩) n Js := fun _ => ⟨_, rfl, fun i J hJ => by
  obtain ⟨Pi, ci, h1, h2, h3⟩ := h i J hJ
  exact ⟨Pi, ci, by rw [add0]; exact o.cell h1, h2, h3⟩⟩
theorem RCc.rc {X : World} {P : Option Addr} {n : Nat} {Js : List (List Cel)} (h : RCc X P n Js) : RC X P n Js := fun hn => by
  obtain ⟨ad, e, hc⟩ := h hn
  refine ⟨ad, e, fun i J hJ => ?_⟩
  obtain ⟨Pi, ci, h1, h2, -⟩ := hc i J hJ
  exact ⟨Pi, ci, h1, h2⟩
theorem rcc_one {w X : World} {P : Option Addr} {N c : Nat} {J : List Cel} (hX : X = w.alloc (.cells #[.slice P N c] 31)) (h : RowC w P N J) (hN : N = J.length) (hc : N ≤ c) : RCc X (some ⟨w.heap.size, 0, none⟩) 1 [J] ∧ Below w.heap.size w X := by
  have hb : Below w.heap.size w X := by rw [hX]; exact (Below.refl _ _).alloc (Nat.le_refl _) _
  have o : Own 31 X w.heap.size [.slice P N c] := by rw [hX]; exact heap_alloc_new w _
  refine ⟨rcc_list o fun i K hK => ?_, hb⟩
  rcases i with _ | i
  · simp only [List.getElem?_cons_zero, Option.some.injEq] at hK
    subst hK
    rw [← hN]
    exact ⟨P, c, rfl, h.keep (Keeps.of_below hb), hc⟩
  · simp at hK
theorem rcc_two {w X : World} {P Q : Option Addr} {N c M d : Nat} {J K : List Cel} (hX : X = w.alloc (.cells #[.slice P N c, .slice Q M d] 31)) (h : RowC w P N J) (hN : N = J.length) (hc : N ≤ c) (h2 : RowC w Q M K) (hM : M = K.length) (hd : M ≤ d) : RCc X (some ⟨w.heap.size, 0, none⟩) 2 [J, K] ∧ Below w.heap.size w X := by
  have hb : Below w.heap.size w X := by rw [hX]; exact (Below.refl _ _).alloc (Nat.le_refl _) _
  have o : Own 31 X w.heap.size [.slice P N c, .slice Q M d] := by rw [hX]; exact heap_alloc_new w _
  refine ⟨rcc_list o fun i G hG => ?_, hb⟩
  rcases i with _ | _ | i
  · simp only [List.getElem?_cons_zero, Option.some.injEq] at hG
    subst hG
    rw [← hN]
    exact ⟨P, c, rfl, h.keep (Keeps.of_below hb), hc⟩
  · simp only [List.getElem?_cons_succ, List.getElem?_cons_zero, Option.some.injEq] at hG
    subst hG
    rw [← hM]
    exact ⟨Q, d, rfl, h2.keep (Keeps.of_below hb), hd⟩
  · simp at hG
theorem pass_two {f : Nat} (hf : 2 ≤ f) : passN f 2 = 1 := by
  rw [passN_more (by omega) hf, passN_one (by
    have : (2 + f - 1) / f < 2 := by rw [Nat.div_lt_iff_lt_mul (by omega)]; omega
    omega)]
theorem two_self_len : ∀ (G : List Cel), (twoP G G).length = G.length
  | [] => by rw [twoP_nil]
  | x :: l => by
    have h0 : cmpL x.key x.key = 0 := cmpL_zero.2 rfl
    rw [twoP_cons, if_neg (by omega), if_pos h0, List.length_cons, List.length_cons, two_self_len l]
theorem grp_self_len {G : List Cel} (h : RiseC G) : (grpR (G ++ G)).length = G.length := by rw [← two_grp h h, two_self_len]
theorem OkL.app {d mm : Nat} {L K : List Cel} (h : OkL d mm L) (h2 : OkL d mm K) : OkL d mm (L ++ K) := fun x hx => by
  rcases List.mem_append.1 hx with hx | hx
  · exact h x hx
  · exact h2 x hx
theorem grp_one {G : List Cel} (h : RiseC G) : grpR [G].flatten = G := by
  have : [G].flatten = G := by simp
  rw [this]
  have h1 := two_grp h (show RiseC [] by simp [RiseC])
  rw [twoP_nil2, List.append_nil] at h1
  exact h1.symm
theorem mpk_two {d me : Nat} {J K : List Cel} (hJ : RiseC J) (hK : RiseC K) (oJ : OkL d me J) (oK : OkL d me K) (hd : d ≤ 1000000) (hl : J.length + K.length ≤ 1000) : MPk me [J, K] :=
  have hfl : [J, K].flatten = J ++ K := by simp
  MPk.of_ok (d := d) (fun G hG => by
    simp at hG
    rcases hG with rfl | rfl
    · exact hJ
    · exact hK) (by rw [hfl]; exact oJ.app oK) hd (by rw [hfl, List.length_append]; exact hl)
theorem wpList_append_eqg {P : Program} {ops : Array Oper} {rest : List Oper} {o : Oper} {a : Act} {w : World} {Q : Exit → Act → World → Prop} (hw : Region.wanted o (yielded ops a.tmps) = true) (s x : Operand) (t : TypeId)
    (ho : o.op = .call { callee := .builtin .append, args := #[s, x], argTypes := #[t, t] }) (v y v' : Value) (w' : World) (hs : a.eval s = v) (hx : a.eval x = y)
    (hrun : (Builtin.append_ #[t, t] o.type #[v, y]).run P w = .ok v' w') (h : wpList P ops Q rest (a.put o.dst v') w') : wpList P ops Q (o :: rest) a w :=
  wpList_step fun K hK => by
    rw [if_pos hw]
    unfold Oper.wp execOp
    simp only [ho, resolve, invoke, builtin, Sem.run_bind, Sem.run_pure, Result.andThen_ok, List.map_toArray, List.map_cons, List.map_nil, hs, hx, hrun]
    exact hK _ _ h
theorem rise_nil : RiseC [] := by simp [RiseC]
theorem okL_nil {d me : Nat} : OkL d me [] := fun _ hx => absurd hx List.not_mem_nil
theorem grp_nil_right {G : List Cel} (h : RiseC G) : grpR (G ++ []) = G := by rw [← two_grp h rise_nil, twoP_nil2]
theorem grp_nil_left {G : List Cel} (h : RiseC G) : grpR ([] ++ G) = G := by rw [← two_grp rise_nil h, twoP_nil]
theorem rowC_nil {W : World} {P : Option Addr} : RowC W P 0 [] := fun h => absurd h (by omega)
theorem grp_turn (J K : List Cel) : grpR (J ++ K) = grpR (K ++ J) := grpR_perm List.perm_append_comm
end Go.Proofs.Ytmolfcccfekcpaa
/- A row of runs that a law makes grow, the runs in an elder world. -/
namespace Go.Proofs.Ytmolfcccfekcpaa
open Go.RowKit Go.Shelf
def OutR (w0 X : World) (v : Value) (us : List Value) (Ts : List (List Cel)) : Prop := X.ownsRow w0.heap.size 31 1 v us.length us ∧ us.length = Ts.length ∧ Below w0.heap.size w0 X ∧ ∀ (i : Nat) (u : Value) (J : List Cel), us[i]? = some u → Ts[i]? = some J → ∃ P c, u = .slice P J.length c ∧ RowC w0 P J.length J ∧ J.length ≤ c
theorem OutR.nil (w0 : World) : OutR w0 w0 (.slice none 0 0) [] [] := ⟨World.ownsRow_nil _ _ _ _, rfl, Below.refl _ _, fun i u J h => by simp at h⟩
theorem OutR.put {w0 X : World} {v : Value} {us : List Value} {Ts : List (List Cel)} {J : List Cel} {P : Option Addr} {n c : Nat} (h : OutR w0 X v us Ts) (hr : RowC w0 P n J) (hn : n = J.length) (hc : n ≤ c) (hl : Ts.length + 1 ≤ 1000000) :
    ∃ v' Y, (Builtin.append_ #[29, 29] 29 #[v, .slice (some ⟨X.heap.size, 0, none⟩) 1 1]).run Try.prog (X.alloc (.cells #[.slice P n c] 31)) = .ok v' Y ∧ OutR w0 Y v' (us ++ [.slice P n c]) (Ts ++ [J]) := by
  obtain ⟨h1, h2, h3, h4⟩ := h
  obtain ⟨v', Y, hrun, hr2, ht, -⟩ := append_word1 h1 (u := .slice P n c) rfl (by omega) h3.size
  have hb := ht.below (B := w0.heap.size) (fun k hk => (h1.lt k hk).1) h3.size
  refine ⟨v', Y, hrun, hr2, by rw [List.length_append, List.length_append, h2]; rfl, h3.trans hb, fun i u K hu hK => ?_⟩
  rcases Nat.lt_or_ge i us.length with hi | hi
  · rw [List.getElem?_append_left hi] at hu
    rw [List.getElem?_append_left (by rw [← h2]; exact hi)] at hK
    exact h4 i u K hu hK
  · rw [List.getElem?_append_right hi] at hu
    rw [List.getElem?_append_right (by rw [← h2]; exact hi), ← h2] at hK
    obtain ⟨z, hz⟩ : ∃ z, z = i - us.length := ⟨_, rfl⟩
    rw [← hz] at hu hK
    rcases z with _ | z
    · simp only [List.getElem?_cons_zero, Option.some.injEq] at hu hK
      subst hu hK
      rw [← hn]
      exact ⟨P, c, rfl, hr, hc⟩
    · simp at hu
theorem OutR.form {w0 X : World} {v : Value} {us : List Value} {Ts : List (List Cel)} (h : OutR w0 X v us Ts) : ∃ P c, v = .slice P Ts.length c ∧ Ts.length ≤ c ∧ RCc X P Ts.length Ts := by
  obtain ⟨h1, h2, h3, h4⟩ := h
  obtain ⟨P, c, e, hc, -, hf⟩ := own_form h1
  rw [h2] at e hc hf
  refine ⟨P, c, e, hc, fun hn => ?_⟩
  obtain ⟨g, rfl, -, hq⟩ := hf hn
  refine ⟨_, rfl, fun i J hJ => ?_⟩
  have hi : i < us.length := by rw [h2]; exact (List.getElem?_eq_some_iff.1 hJ).1
  obtain ⟨u, hu⟩ : ∃ u, us[i]? = some u := ⟨_, List.getElem?_eq_getElem hi⟩
  obtain ⟨Pi, ci, rfl, hr, hci⟩ := h4 i u J hu hJ
  exact ⟨Pi, ci, by rw [add0]; exact hq i _ hu, hr.keep (Keeps.of_below h3), hci⟩
end Go.Proofs.Ytmolfcccfekcpaa
/- A row of runs of one cell each that a law makes grow. -/
namespace Go.Proofs.Ytmolfcccfekcpaa
open Go.RowKit Go.Shelf
def cZ (i : Int) : Cel := ⟨[i], 1, [], [], []⟩
def zs (n : Nat) : List Cel := (List.range n).map fun (i : Nat) => cZ (i : Int)
def zJ (n : Nat) : List (List Cel) := (List.range n).map fun (i : Nat) => [cZ (i : Int)]
theorem zJ_flat (n : Nat) : (zJ n).flatten = zs n := by
  unfold zJ zs
  induction n with
  | zero => rfl
  | succ n ih => rw [List.range_succ, List.map_append, List.flatten_append, ih, List.map_append]; rfl
theorem zs_len (n : Nat) : (zs n).length = n := by simp [zs]
theorem zJ_len (n : Nat) : (zJ n).length = n := by simp [zJ]
theorem zs_rise (n : Nat) : RiseC (zs n) := by
  unfold RiseC zs
  rw [List.pairwise_map]
  refine List.pairwise_lt_range.imp ?_
  intro a b h
  have : ¬ ((b : Int) < (a : Int)) := by omega
  have h2 : (a : Int) < (b : Int) := by omega
  simp [cZ, cmpL, cmpI, h2]
theorem zs_grp (n : Nat) : grpR (zJ n).flatten = zs n := by
  rw [zJ_flat]
  have := grp_nil_left (zs_rise n)
  simpa using this
theorem zs_mem {n : Nat} {x : Cel} (h : x ∈ zs n) : x.key.length = 1 ∧ EvenC 0 x := by
  obtain ⟨i, -, rfl⟩ := List.mem_map.1 h
  exact ⟨rfl, rfl, rfl, rfl⟩
theorem zJ_mpk {n : Nat} (h : n ≤ 1000) : MPk 0 (zJ n) := ⟨fun J hJ => by
  obtain ⟨i, -, rfl⟩ := List.mem_map.1 hJ
  simp [RiseC], fun x hx => by
  rw [zJ_flat] at hx
  obtain ⟨h1, h2⟩ := zs_mem hx
  exact ⟨h2, by omega⟩, by rw [zJ_flat, zs_len]; exact h⟩
def OutZ (B : Nat) (X : World) (v : Value) (us : List Value) (n : Nat) : Prop := X.ownsRow B 31 1 v us.length us ∧ us.length = n ∧ ∀ i, i < n → ∃ g k, us[i]? = some (.slice (some ⟨g, 0, none⟩) 1 1) ∧ Own 44 X g [.slice (some ⟨k, 0, none⟩) 1 1, .int .i64 1, .slice none 0 0, .slice none 0 0, .slice none 0 0] ∧ Own 3 X k [.int .i64 (i : Int)] ∧ v.ownBlock ≠ some g ∧ v.ownBlock ≠ some k
theorem OutZ.nil (B : Nat) (X : World) : OutZ B X (.slice none 0 0) [] 0 := ⟨World.ownsRow_nil _ _ _ _, rfl, fun i h => absurd h (by omega)⟩
theorem own_ltZ {T : TypeId} {X : World} {g : Nat} {vs : List Value} (h : Own T X g vs) : g < X.heap.size := by
  rcases Nat.lt_or_ge g X.heap.size with h1 | h1
  · exact h1
  · unfold Own at h
    rw [Array.getElem?_eq_none h1] at h
    cases h
theorem OutZ.put {B n : Nat} {X A C : World} {v : Value} {us : List Value} (h : OutZ B X v us n) (hB : B ≤ X.heap.size) (hn : n ≤ 1000)
    (hA : A = X.alloc (.cells #[.int .i64 (n : Int)] 3)) (hC : C = A.alloc (.cells #[.slice (some ⟨X.heap.size, 0, none⟩) 1 1, .int .i64 1, .slice none 0 0, .slice none 0 0, .slice none 0 0] 44)) :
    ∃ v' us' Y, (Builtin.append_ #[29, 29] 29 #[v, .slice (some ⟨C.heap.size, 0, none⟩) 1 1]).run Try.prog (C.alloc (.cells #[.slice (some ⟨A.heap.size, 0, none⟩) 1 1] 31)) = .ok v' Y ∧ OutZ B Y v' us' (n + 1) ∧ Below B X Y := by
  obtain ⟨h1, h2, h3⟩ := h
  have bA : Below X.heap.size X A := by rw [hA]; exact (Below.refl _ _).alloc (Nat.le_refl _) _
  have sA : A.heap.size = X.heap.size + 1 := by rw [hA]; simp
  have bC : Below A.heap.size A C := by rw [hC]; exact (Below.refl _ _).alloc (Nat.le_refl _) _
  have sC : C.heap.size = A.heap.size + 1 := by rw [hC]; simp
  have bXC : Below X.heap.size X C := bA.trans (bC.mono bA.size)
  have oA : Own 3 C X.heap.size [.int .i64 (n : Int)] := (show Own 3 A X.heap.size [.int .i64 (n : Int)] by rw [hA]; exact heap_alloc_new X _).below bC (by omega)
  have oC : Own 44 C A.heap.size [.slice (some ⟨X.heap.size, 0, none⟩) 1 1, .int .i64 1, .slice none 0 0, .slice none 0 0, .slice none 0 0] := by rw [hC]; exact heap_alloc_new A _
  have hv : ∀ k, v.ownBlock = some k → k < X.heap.size := fun k hk => (h1.lt k hk).2
  have hvB : ∀ k, v.ownBlock = some k → B ≤ k := fun k hk => (h1.lt k hk).1
  have hv' : v.ownBlock ≠ some A.heap.size ∧ v.ownBlock ≠ some X.heap.size := ⟨fun e => by have := hv _ e; omega, fun e => by have := hv _ e; omega⟩
  obtain ⟨v', Y, hrun, hr, ht, hb⟩ := append_word1 (own_below h1 bXC (Nat.le_refl _)) (u := .slice (some ⟨A.heap.size, 0, none⟩) 1 1) rfl (by omega) (Nat.le_trans hB bXC.size)
  have st : ∀ {T : TypeId} {g : Nat} {vs : List Value}, Own T C g vs → v.ownBlock ≠ some g → Own T Y g vs := fun {T g vs} ho hne => by
    have := ht.block g (own_ltZ ho) hne
    unfold Own at ho ⊢
    rw [this]
    exact ho
  have nb : ∀ g, g < C.heap.size → v.ownBlock ≠ some g → v'.ownBlock ≠ some g := fun g hg hne e => by
    rcases hb g e with h | h
    · exact hne h
    · omega
  refine ⟨v', _, Y, hrun, ⟨hr, by rw [List.length_append, h2]; rfl, fun i hi => ?_⟩, (bXC.mono hB).trans (ht.below hvB (Nat.le_trans hB bXC.size))⟩
  by_cases hin : i < n
  · obtain ⟨g, k, e, o1, o2, n1, n2⟩ := h3 i hin
    have g1 := own_ltZ o1
    have g2 := own_ltZ o2
    refine ⟨g, k, by rw [List.getElem?_append_left (by omega)]; exact e, st (o1.below bXC g1) n1, st (o2.below bXC g2) n2, nb g (by omega) n1, nb k (by omega) n2⟩
  · obtain rfl : i = n := by omega
    refine ⟨A.heap.size, X.heap.size, by rw [List.getElem?_append_right (by omega), h2, Nat.sub_self]; rfl, st oC hv'.1, st oA hv'.2, nb _ (by omega) hv'.1, nb _ (by omega) hv'.2⟩
theorem OutZ.form {B n : Nat} {X : World} {v : Value} {us : List Value} (h : OutZ B X v us n) (hn : n ≤ 1000) : ∃ P c, v = .slice P n c ∧ n ≤ c ∧ RCc X P n (zJ n) := by
  obtain ⟨h1, h2, h3⟩ := h
  obtain ⟨P, c, e, hc, -, hf⟩ := own_form h1
  rw [h2] at e hc hf
  refine ⟨P, c, e, hc, fun hn0 => ?_⟩
  obtain ⟨g, rfl, -, hq⟩ := hf hn0
  refine ⟨_, rfl, fun i J hJ => ?_⟩
  have hi : i < n := by have := (List.getElem?_eq_some_iff.1 hJ).1; rw [zJ_len] at this; exact this
  have eJ : J = [cZ (i : Int)] := by
    unfold zJ at hJ
    rw [List.getElem?_map, List.getElem?_range hi] at hJ
    simpa using hJ.symm
  subst eJ
  obtain ⟨gi, ki, eu, o1, o2, -⟩ := h3 i hi
  exact ⟨_, 1, by rw [add0]; exact hq i _ eu, one_row o1 (row_ri _ ki [(i : Int)] 3 (by simp [inK]; omega) o2 (by simp)) (by simp [inK]), by simp⟩
theorem ceilZ {n f : Nat} (hn : 2 ≤ n) (hf : 2 ≤ f) : (n + f - 1) / f < n := ceil_lt (by omega) (by omega)
end Go.Proofs.Ytmolfcccfekcpaa
/- The law MergePasses. -/
namespace Go.Proofs.Ytmolfcccfekcpaa
open Go.RowKit Go.Shelf
attribute [local go_sem] Oper.semAt_some
set_option maxRecDepth 100000 in
set_option maxHeartbeats 8000000 in
theorem mergePasses_walk (a0 a1 : Int) (w : World) (h0 : inK .i64 a0) (h1 : inK .i64 a1) :
    Calls Try.prog 6 #[.int .i64 a0, .int .i64 a1] w fun e w' => e = .returned (.bool true) ∧ Below w.heap.size w w' := by
  have HKn := Lib.hid (known6_any w)
  have HW := Lib.hid (fun (x n : Int) (W : World) (h : inK .i64 x) (e1 : 1 ≤ n) (e2 : n ≤ 100) => lwithin6 x n W h e1 (by omega))
  obtain ⟨k, hk⟩ : ∃ k : Nat, (k : Int) = a0 % 60 := ⟨(a0 % 60).toNat, by omega⟩
  obtain ⟨g, hg⟩ : ∃ g : Nat, (g : Int) = a1 % 9 := ⟨(a1 % 9).toNat, by omega⟩
  have hk60 : k < 60 := by omega
  have hg9 : g < 9 := by omega
  have HK := Lib.hid hk
  have HG := Lib.hid hg
  clear hk hg
  go_enter Try.func6, Try.ntmps6
  go_wp2_with fail
  refine HKn.out.mono ?_
  rintro e w1 ⟨rfl, hb1⟩
  have Hb1 := Lib.hid hb1
  clear hb1 HKn
  go_wp2_with fail
  refine (HW.out a0 60 w1 h0 (by omega) (by omega)).mono ?_
  rintro e w' ⟨rfl, hw'⟩
  subst hw'
  rw [← HK.out]
  go_wp2_with fail
  refine (HW.out a1 9 w1 h1 (by omega) (by omega)).mono ?_
  rintro e w' ⟨rfl, hw'⟩
  subst hw'
  rw [← HG.out]
  obtain ⟨F, hF⟩ : ∃ F, F = g + 2 := ⟨_, rfl⟩
  have hw2 : IntKind.i64.wrap (2 + (g : Int)) = (F : Int) := by rw [IntWalk.i64_in _ (by omega), hF]; push_cast; omega
  have hFb : 2 ≤ F ∧ F ≤ 10 := by omega
  clear hF hg9 HW
  go_wp2_with fail
  go_loopw [7, 8] (fun s7 s8 wr => ∃ (i : Nat) (us : List Value), s8 = .int .i64 i ∧ i ≤ k ∧ OutZ w1.heap.size wr s7 us i ∧ Below w1.heap.size w1 wr) (fun _ s8 _ => k - (intOf s8).toNat)
  case atStart => exact ⟨0, [], rfl, Nat.zero_le _, OutZ.nil _ _, Below.refl _ _⟩
  case round =>
    obtain ⟨i, us, rfl, hi, hO, hb⟩ := hrel
    rename World => wr
    have HO := Lib.hid hO
    have HB := Lib.hid hb
    clear hO hb
    by_cases hlt : i < k
    · have d1 : decide ((i : Int) < (k : Int)) = true := decide_eq_true (by omega)
      obtain ⟨A, hA⟩ : ∃ A, A = wr.alloc (.cells #[.int .i64 (i : Int)] 3) := ⟨_, rfl⟩
      obtain ⟨C, hC⟩ : ∃ C, C = A.alloc (.cells #[.slice (some ⟨wr.heap.size, 0, none⟩) 1 1, .int .i64 1, .slice none 0 0, .slice none 0 0, .slice none 0 0] 44) := ⟨_, rfl⟩
      obtain ⟨v', us', Y, hrun, hO', hb'⟩ := HO.out.put HB.out.size (by omega) hA hC
      have eA : A.heap.size = wr.heap.size + 1 := by rw [hA]; simp
      have eC : C.heap.size = wr.heap.size + 1 + 1 := by rw [hC]; simp [eA]
      rw [eC, eA, hC, hA] at hrun
      have Hrun := Lib.hid hrun
      have HO' := Lib.hid hO'
      have HB' := Lib.hid (HB.out.trans hb')
      clear hrun hO' hb' eA eC hA hC C A
      go_wp2_with (first | (at_builtin; have _t := Hrun; refine wpList_append_eq rfl (.tmp 25) (.tmp 30) 29 rfl _ _ _ _ rfl rfl Hrun.out ?_; clear _t Hrun) | fail)
      go_roundw
      case rel => exact ⟨i + 1, _, by go_num, by omega, HO'.out, HB'.out⟩
      case measure => simp [intOf]; omega
    · obtain rfl : i = k := by omega
      have d1 : decide ((i : Int) < (i : Int)) = false := by simp
      obtain ⟨P, c, rfl, hc, hR⟩ := HO.out.form (by omega)
      have hm := mMerge_any P c i 0 F (zJ i) wr (zJ_len i).symm (by omega) hc (by omega) (by omega) hR (zJ_mpk (by omega)) (by omega)
      rw [zs_grp] at hm
      obtain ⟨pf, hpf⟩ : ∃ p, p = passN F := ⟨_, rfl⟩
      have PF1 := Lib.hid (fun (m : Nat) (h : m ≤ 1) => show pf m = 0 by rw [hpf]; exact passN_one h)
      have PF2 := Lib.hid (fun (m : Nat) (h : 2 ≤ m) => show pf m = 1 + pf ((m + F - 1) / F) by rw [hpf]; exact passN_more h (by omega))
      have hpk : pf i ≤ i := by rw [hpf]; exact passN_le (by omega) i
      rw [← hpf] at hm
      obtain ⟨pp, hpp⟩ : ∃ p, p = pf i := ⟨_, rfl⟩
      rw [← hpp] at hm hpk
      have HM := Lib.hid hm
      have HPP := Lib.hid hpp
      clear hm hpp hpf hR hc HO
      go_wp2_with fail
      go_loopw [9, 10] (fun s9 s10 wy => ∃ (z m : Nat), s9 = .int .i64 z ∧ s10 = .int .i64 m ∧ m ≤ 59 ∧ z + pf m = pp ∧ wy = wr) (fun _ s10 _ => (intOf s10).toNat)
      case atStart => exact ⟨0, i, rfl, rfl, by omega, by rw [HPP.out, Nat.zero_add], by simp⟩
      case round =>
        obtain ⟨z, m, rfl, rfl, hm59, hz, rfl⟩ := hrel
        by_cases hm1 : 1 < m
        · have d2 : decide ((1 : Int) < (m : Int)) = true := decide_eq_true (by omega)
          have d2n : decide (1 < m) = true := decide_eq_true hm1
          obtain ⟨q, hq⟩ : ∃ q, q = (m + F - 1) / F := ⟨_, rfl⟩
          have hql : q < m := by rw [hq]; exact ceilZ (by omega) (by omega)
          have hpn : pf m = 1 + pf q := by rw [hq]; exact PF2.out m (by omega)
          have hrel2 : z + 1 + pf q = pp := by rw [← hz, hpn]; omega
          have hq59 : q ≤ 59 := by omega
          clear hpn hz
          have e1 : IntKind.i64.wrap ((m : Int) + (F : Int)) = (m : Int) + (F : Int) := IntWalk.i64_in _ (by omega)
          have e2 : IntKind.i64.wrap ((m : Int) + (F : Int) - 1) = (m : Int) + (F : Int) - 1 := IntWalk.i64_in _ (by omega)
          have e3 : ((m : Int) + (F : Int) - 1) / (F : Int) = (q : Int) := by rw [hq, Int.natCast_ediv]; congr 1; omega
          have e3t : Int.tdiv ((m : Int) + (F : Int) - 1) (F : Int) = (q : Int) := by rw [Int.tdiv_eq_ediv_of_nonneg (by omega), e3]
          have e4 : IntKind.i64.wrap (q : Int) = (q : Int) := IntWalk.i64_in _ (by omega)
          have e5 : wrap64 (q : Int) = (q : Int) := IntWalk.wrap64_in _ (by omega)
          have f0 : ((F : Int) == 0) = false := by simp; omega
          have f1 : ¬ (F : Int) = 0 := by omega
          have f2 : ¬ F = 0 := by omega
          clear hq
          go_wp2
          go_roundw
          case rel => exact ⟨z + 1, q, by go_num, rfl, hq59, hrel2, trivial⟩
          case measure => simp [intOf]; omega
        · have d2 : decide ((1 : Int) < (m : Int)) = false := decide_eq_false (by omega)
          have d2n : decide (1 < m) = false := decide_eq_false hm1
          have hz0 : z = pp := by rw [← hz, PF1.out m (by omega)]; omega
          subst hz0
          clear hz HPP
          go_wp2_with fail
          refine HM.out.mono ?_
          rintro e x3 ⟨⟨v3, u3, rfl, g3⟩, b3⟩
          obtain ⟨P3, c3, f3, -⟩ := g3.form
          have l3 : u3.length = i := by rw [g3.len, zs_len]
          rw [l3] at f3
          subst f3
          have R3 := g3.rowC.1
          have hrs := rSorted_any P3 c3 i (zs i) x3 R3 (zs_len i).symm (fun y hy => by have := (zs_mem hy).1; omega) (by omega)
          rw [rise_prs (zs_rise i)] at hrs
          have HRS := Lib.hid hrs
          have B3 := Lib.hid (HB.out.trans (b3.mono HB.out.size))
          have d4 : ((z : Int) == (z : Int)) = true := by simp
          have d5 : ((i : Int) == (i : Int)) = true := by simp
          clear g3 b3 l3 R3 hrs
          go_wp2_with fail
          refine HRS.out.mono ?_
          rintro e x4 ⟨rfl, b4⟩
          have B4 := Lib.hid (Hb1.out.trans ((B3.out.trans (b4.mono B3.out.size)).mono Hb1.out.size))
          clear b4
          go_wp2
          go_ret
          exact ⟨rfl, B4.out⟩
end Go.Proofs.Ytmolfcccfekcpaa
