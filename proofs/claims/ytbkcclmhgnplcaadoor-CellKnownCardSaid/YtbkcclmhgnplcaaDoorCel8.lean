/- Package cell: runs of one key, told one by one (here: one alone). -/
import Derived.Test.YtbkcclmhgnplcaaDoorCel7
import Derived.Test.YtbkcclmhgnplcaaDoorRegI
import Derived.Test.YtbkcclmhgnplcaaDoorDims
namespace Go.Proofs.YtbkcclmhgnplcaaDoor
open Go.RowKit Go.Shelf
attribute [local go_sem] Oper.semAt_some
section
variable {F : Fence} {n : Nat} {P : Program} {ops : Array Oper} {Q : Exit → Act → World → Prop} {md : Region.Mode} {S : World → Prop}
theorem AllI.skip {k : Nat} {l : Array Bool} {a : Act} {w : World} {i : Nat} {o : Oper} {rs : List Nat} (ho : ops[i]? = some o) (hw : Region.wanted o (yielded ops a.tmps) = false) (hF : ∀ f, F.fn f) (hS : S w)
    (h : anyI F n P md ops Q S k (l.setIfInBounds i true) (a.put o.dst undef) w) (hs : AllI F n P md ops Q S k l a w rs) : AllI F n P md ops Q S k l a w (i :: rs) := fun j hj => by
  rcases List.mem_cons.1 hj with rfl | hj
  · unfold wpOpIn
    simp only [ho, hw, Bool.false_eq_true, if_false]
    exact ⟨fun f _ => hF f, hS, h⟩
  · exact hs j hj
end
theorem grown_drew (W : World) : W.grownBy W.drew none := ⟨rfl, rfl, rfl, Nat.le_refl _, fun _ _ _ => rfl⟩
/-- All bear one key. -/
def OneKey (key : List Int) (l : List Cel) : Prop := ∀ x ∈ l, x.key = key
def lenOf : Value → Nat
  | .slice _ n _ => n
  | _ => 0
set_option maxRecDepth 100000 in
set_option maxHeartbeats 4000000 in
theorem alike1_in (n : Nat) (hn : 1 ≤ n) (l Bs : Nat) (ad : Addr) (c N : Nat) (L : List Cel) (key : List Int) (hN : N = L.length) (hN0 : 0 < N) (hN1 : N ≤ 1000000) (hc : N ≤ c) (hkey : OneKey key L) (hkl : key.length ≤ 1000000) (J Jx : List Unit → World → Prop)
    (W : World) (hA : AbidesFrom W.heap.size J)
    (hY : ∀ pre x W1, J pre W1 → pre.length < 1 → YieldAt Fence.wide (n - 1) Tryd.prog l #[.slice (some ad) N c] W1 fun e W' =>
      (e = .returned (.bool true) ∧ J (pre ++ [x]) W' ∧ True) ∨ (e = .returned (.bool false) ∧ Jx (pre ++ [x]) W'))
    (hBs : W.cell? ⟨Bs, 0, none⟩ = some (.slice (some ad) N c)) (hl : CellsR W ad L) (h0 : J [] W) :
    CallsIn Fence.wide n Tryd.prog 79 #[.func (.yield l) #[] #[], .pointer (some ⟨Bs, 0, none⟩)] W fun e W' => (∃ v, e = .returned v) ∧
      ((∃ ys : List Unit, ys.length = 1 ∧ J ys W') ∨ (∃ pre : List Unit, True ∧ Jx pre W')) := by
  have HN := Lib.hid hN
  have Hl := Lib.hid hl
  have Hkey := Lib.hid hkey
  clear hN hl hkey
  refine callsIn_of_wp Tryd.func79 rfl trivial ?_ rfl
  simp only [Tryd.ntmps79, List.size_toArray, List.length_cons, List.length_nil, Nat.reduceAdd, Nat.reduceSub, Array.replicate_succ, Array.replicate_zero, List.push_toArray, List.append_toArray, List.nil_append, List.cons_append]
  gi_wp2
  gi_loopw [3] (fun p wr => (p = .slice (some ad) N c ∧ wr = W) ∨ (∃ P d, p = .slice P 0 d ∧ J [()] wr)) (fun p _ => lenOf p)
  case atStart => exact .inl ⟨rfl, rfl⟩
  case round =>
    rcases hrel with ⟨rfl, rfl⟩ | ⟨P, d, rfl, hJ⟩
    · have d1 : decide ((0 : Int) < (N : Int)) = true := decide_eq_true (by omega)
      gi_wp2
      gi_loopw [4] (fun v W' => ∃ k : Nat, v = .int .i64 k ∧ 1 ≤ k ∧ k ≤ N ∧ J [] W' ∧ Below wr.heap.size wr W') (fun v _ => N - (intOf v).toNat)
      case atStart => exact ⟨1, rfl, by omega, by omega, h0, Below.refl _ _⟩
      case round =>
        obtain ⟨k, rfl, hk1, hk2, hJ, hB⟩ := hrel
        rename World => W1
        obtain ⟨x, hx⟩ : ∃ x, L[0]? = some x := ⟨_, List.getElem?_eq_getElem (by have := HN.out; omega)⟩
        have hx0 := (Hl.out 0 x hx).keep (Keeps.of_below hB)
        rw [show ad.add (0 * 5) = ad from by simp [Addr.add]] at hx0
        have hkx := Hkey.out x (List.mem_of_getElem? hx)
        obtain ⟨vk, vs, vn, vm, a0, -, -, -, -, hcx, -⟩ := hx0
        obtain ⟨Pk, ck, f1, -⟩ := hcx.key
        subst f1
        have Hx := Lib.hid hcx.key
        rw [hkx] at Hx a0
        clear hcx hx
        have hJd : J [] W1.drew := hA _ _ _ _ hJ (grown_drew W1) (fun r e => by cases e)
        have hBd := below_drewN hB 1
        change Below wr.heap.size wr W1.drew at hBd
        have HJd := Lib.hid hJd
        have HBd := Lib.hid hBd
        by_cases hlt : k < N
        · obtain ⟨y, hy⟩ : ∃ y, L[k]? = some y := ⟨_, List.getElem?_eq_getElem (by have := HN.out; omega)⟩
          have hy0 := (Hl.out k y hy).keep (Keeps.of_below hB)
          have hky := Hkey.out y (List.mem_of_getElem? hy)
          obtain ⟨uk, us, un, um, b0, -, -, -, -, hcy, -⟩ := hy0
          obtain ⟨Qk, dk, f2, -⟩ := hcy.key
          subst f2
          have Hy := Lib.hid hcy.key
          rw [hky] at Hy b0
          clear hcy hy
          have HS : Hid (W1.drew.cell? ad = some (.slice Pk key.length ck) ∧ W1.drew.cell? (ad.add (k * 5)) = some (.slice Qk key.length dk)) := Lib.hid ⟨a0, b0⟩
          have d0 : decide (k < N) = true := by simp; omega
          have i0 : (0 : Int) ≤ (k : Int) := by omega
          have i1 : (k : Int) < (N : Int) := by omega
          have i2 : (0 : Int) < (N : Int) := by omega
          have i3 : 0 < N := by omega
          clear hB hBd hJ hJd h0 a0 b0
          gi_wp2
          refine region_I (S := fun W' => W'.cell? ad = some (.slice Pk key.length ck) ∧ W'.cell? (ad.add (k * 5)) = some (.slice Qk key.length dk)) (by kernel_rfl) HS.out (fun hHeld => ?_)
          refine anyI_take (i := 0) (v := ?vb0) (by kernel_rfl) rfl (by kernel_rfl) (by kernel_rfl) (by kernel_rfl) (fun _ _ _ h => h) (fun _ => rfl) (Or.inl ⟨by rfl, ?yb0⟩) hHeld ?rb0
          case yb0 => (intro W hW; obtain ⟨h1, h2⟩ := hW; go_simp; first | done | with_reducible rfl)
          try simp only [List.getElem_toArray, List.getElem_cons_zero, Act.put, List.setIfInBounds_toArray, List.set_cons_zero, List.set_cons_succ]
          refine anyI_take (i := 1) (v := ?vb1) (by kernel_rfl) rfl (by kernel_rfl) (by kernel_rfl) (by kernel_rfl) (fun _ _ _ h => h) (fun _ => rfl) (Or.inl ⟨by rfl, ?yb1⟩) hHeld ?rb1
          case yb1 => (intro W hW; obtain ⟨h1, h2⟩ := hW; go_simp; first | done | with_reducible rfl)
          try simp only [List.getElem_toArray, List.getElem_cons_succ, List.getElem_cons_zero, Act.put, List.setIfInBounds_toArray, List.set_cons_zero, List.set_cons_succ]
          refine anyI_take (i := 2) (v := ?vb2) (by kernel_rfl) rfl (by kernel_rfl) (by kernel_rfl) (by kernel_rfl) (fun _ _ _ h => h) (fun _ => rfl) (Or.inl ⟨by rfl, ?yb2⟩) hHeld ?rb2
          case yb2 => (intro W hW; obtain ⟨h1, h2⟩ := hW; go_simp; first | done | with_reducible rfl)
          try simp only [List.getElem_toArray, List.getElem_cons_succ, List.getElem_cons_zero, Act.put, List.setIfInBounds_toArray, List.set_cons_zero, List.set_cons_succ]
          refine anyI_take (i := 3) (v := ?vb3) (by kernel_rfl) rfl (by kernel_rfl) (by kernel_rfl) (by kernel_rfl) (fun _ _ _ h => h) (fun _ => rfl) (Or.inl ⟨by rfl, ?yb3⟩) hHeld ?rb3
          case yb3 => (intro W hW; obtain ⟨h1, h2⟩ := hW; go_simp; first | done | with_reducible rfl)
          try simp only [List.getElem_toArray, List.getElem_cons_succ, List.getElem_cons_zero, Act.put, List.setIfInBounds_toArray, List.set_cons_zero, List.set_cons_succ]
          refine anyI_take (i := 4) (v := ?vb4) (by kernel_rfl) rfl (by kernel_rfl) (by kernel_rfl) (by kernel_rfl) (fun _ _ _ h => h) (fun _ => rfl) (Or.inl ⟨by rfl, ?yb4⟩) hHeld ?rb4
          case yb4 => (intro W hW; obtain ⟨h1, h2⟩ := hW; go_simp; first | done | with_reducible rfl)
          try simp only [List.getElem_toArray, List.getElem_cons_succ, List.getElem_cons_zero, Act.put, List.setIfInBounds_toArray, List.set_cons_zero, List.set_cons_succ]
          refine anyI_take (i := 5) (v := ?vb5) (by kernel_rfl) rfl (by kernel_rfl) (by kernel_rfl) (by kernel_rfl) (fun _ _ _ h => h) (fun _ => rfl) (Or.inl ⟨by rfl, ?yb5⟩) hHeld ?rb5
          case yb5 => (intro W hW; obtain ⟨h1, h2⟩ := hW; go_simp; first | done | with_reducible rfl)
          try simp only [List.getElem_toArray, List.getElem_cons_succ, List.getElem_cons_zero, Act.put, List.setIfInBounds_toArray, List.set_cons_zero, List.set_cons_succ]
          refine anyI_take (i := 6) (v := ?vb6) (by kernel_rfl) rfl (by kernel_rfl) (by kernel_rfl) (by kernel_rfl) (fun _ _ _ h => h) (fun _ => rfl) (Or.inl ⟨by rfl, ?yb6⟩) hHeld ?rb6
          case yb6 => (intro W hW; obtain ⟨h1, h2⟩ := hW; go_simp; first | done | with_reducible rfl)
          try simp only [List.getElem_toArray, List.getElem_cons_succ, List.getElem_cons_zero, Act.put, List.setIfInBounds_toArray, List.set_cons_zero, List.set_cons_succ]
          refine anyI_take (i := 7) (v := ?vb7) (by kernel_rfl) rfl (by kernel_rfl) (by kernel_rfl) (by kernel_rfl) (fun _ _ _ h => h) (fun _ => rfl) (Or.inl ⟨by rfl, ?yb7⟩) hHeld ?rb7
          case yb7 => (intro W hW; obtain ⟨h1, h2⟩ := hW; go_simp; first | done | with_reducible rfl)
          try simp only [List.getElem_toArray, List.getElem_cons_succ, List.getElem_cons_zero, Act.put, List.setIfInBounds_toArray, List.set_cons_zero, List.set_cons_succ]
          refine anyI_take (i := 8) (v := ?vb8) (by kernel_rfl) rfl (by kernel_rfl) (by kernel_rfl) (by kernel_rfl) (fun _ _ _ h => h) (fun _ => rfl) (Or.inl ⟨by rfl, ?yb8⟩) hHeld ?rb8
          case yb8 => (intro W hW; obtain ⟨h1, h2⟩ := hW; go_simp; first | done | with_reducible rfl)
          try simp only [List.getElem_toArray, List.getElem_cons_succ, List.getElem_cons_zero, Act.put, List.setIfInBounds_toArray, List.set_cons_zero, List.set_cons_succ]
          refine anyI_take (i := 9) (v := ?vb9) (by kernel_rfl) rfl (by kernel_rfl) (by kernel_rfl) (by kernel_rfl) (fun _ _ _ h => h) (fun _ => rfl) (Or.inl ⟨by rfl, ?yb9⟩) hHeld ?rb9
          case yb9 => (intro W hW; obtain ⟨h1, h2⟩ := hW; go_simp; first | done | with_reducible rfl)
          try simp only [List.getElem_toArray, List.getElem_cons_succ, List.getElem_cons_zero, Act.put, List.setIfInBounds_toArray, List.set_cons_zero, List.set_cons_succ]
          refine anyI_take (i := 10) (v := ?vb10) (by kernel_rfl) rfl (by kernel_rfl) (by kernel_rfl) (by kernel_rfl) (fun _ _ _ h => h) (fun _ => rfl) (Or.inl ⟨by rfl, ?yb10⟩) hHeld ?rb10
          case yb10 => (intro W hW; obtain ⟨h1, h2⟩ := hW; go_simp; first | done | with_reducible rfl)
          try simp only [List.getElem_toArray, List.getElem_cons_succ, List.getElem_cons_zero, Act.put, List.setIfInBounds_toArray, List.set_cons_zero, List.set_cons_succ]
          refine anyI_take (i := 11) (v := ?vb11) (by kernel_rfl) rfl (by kernel_rfl) (by kernel_rfl) (by kernel_rfl) (fun _ _ _ h => h) (fun _ => rfl) (Or.inl ⟨by rfl, ?yb11⟩) hHeld ?rb11
          case yb11 => (intro W hW; obtain ⟨h1, h2⟩ := hW; go_simp; first | done | with_reducible rfl)
          try simp only [List.getElem_toArray, List.getElem_cons_succ, List.getElem_cons_zero, Act.put, List.setIfInBounds_toArray, List.set_cons_zero, List.set_cons_succ]
          refine anyI_take (i := 12) (v := ?vb12) (by kernel_rfl) rfl (by kernel_rfl) (by kernel_rfl) (by kernel_rfl) (fun _ _ _ h => h) (fun _ => rfl) (Or.inl ⟨by rfl, ?yb12⟩) hHeld ?rb12
          case yb12 => (intro W hW; obtain ⟨h1, h2⟩ := hW; go_simp; first | done | with_reducible rfl)
          try simp only [List.getElem_toArray, List.getElem_cons_succ, List.getElem_cons_zero, Act.put, List.setIfInBounds_toArray, List.set_cons_zero, List.set_cons_succ]
          refine anyI_take (i := 13) (v := ?vb13) (by kernel_rfl) rfl (by kernel_rfl) (by kernel_rfl) (by kernel_rfl) (fun _ _ _ h => h) (fun _ => rfl) (Or.inl ⟨by rfl, ?yb13⟩) hHeld ?rb13
          case yb13 => (intro W hW; obtain ⟨h1, h2⟩ := hW; go_simp; first | done | with_reducible rfl)
          try simp only [List.getElem_toArray, List.getElem_cons_succ, List.getElem_cons_zero, Act.put, List.setIfInBounds_toArray, List.set_cons_zero, List.set_cons_succ]
          refine anyI_ready (rs := [14]) (by kernel_rfl) (by simp) ?_
          refine AllI.cons (by kernel_rfl) rfl (by rfl) (fun K hK => ?_) (AllI.nil)
          refine ⟨fun _ _ => trivial, ?_⟩
          go_simp
          refine (callsIn_wide.2 (less_any _ _ key key W1.drew (Hx.out.keep ((Keeps.refl W1).drewN 1)) (Hy.out.keep ((Keeps.refl W1).drewN 1)) hkl hkl)).mono ?_
          rintro e w' ⟨rfl, rfl⟩
          rw [cmpL_self]
          dsimp only
          refine hK.out _ _ (HS.out) (fun hHeld => ?_)
          clear hK K
          try simp only [List.getElem_toArray, List.getElem_cons_succ, List.getElem_cons_zero, Act.put, List.setIfInBounds_toArray, List.set_cons_zero, List.set_cons_succ]
          refine anyI_take (i := 15) (v := ?vb15) (by kernel_rfl) rfl (by kernel_rfl) (by kernel_rfl) (by kernel_rfl) (fun _ _ _ h => h) (fun _ => rfl) (Or.inl ⟨by rfl, ?yb15⟩) hHeld ?rb15
          case yb15 => (intro W hW; go_simp; first | done | with_reducible rfl)
          try simp only [List.getElem_toArray, List.getElem_cons_succ, List.getElem_cons_zero, Act.put, List.setIfInBounds_toArray, List.set_cons_zero, List.set_cons_succ]
          refine anyI_take (i := 16) (v := ?vb16) (by kernel_rfl) rfl (by kernel_rfl) (by kernel_rfl) (by kernel_rfl) (fun _ _ _ h => h) (fun _ => rfl) (Or.inl ⟨by rfl, ?yb16⟩) hHeld ?rb16
          case yb16 => (intro W hW; go_simp; first | done | with_reducible rfl)
          try simp only [List.getElem_toArray, List.getElem_cons_succ, List.getElem_cons_zero, Act.put, List.setIfInBounds_toArray, List.set_cons_zero, List.set_cons_succ]
          refine anyI_done (by kernel_rfl) ?_ _
          gi_wp2
          go_roundw
          case rel => exact ⟨k + 1, by go_num, by omega, by omega, HJd.out, HBd.out⟩
          case measure => simp [intOf]; omega
        · have hkN : N = k := by omega
          subst hkN
          have d0 : decide (N < N) = false := by simp
          clear hB hBd hJ hJd h0 a0
          gi_wp2
          refine region_I (S := fun _ => True) (by kernel_rfl) trivial (fun hHeld => ?_)
          refine anyI_take (i := 0) (v := ?vc0) (by kernel_rfl) rfl (by kernel_rfl) (by kernel_rfl) (by kernel_rfl) (fun _ _ _ h => h) (fun _ => rfl) (Or.inl ⟨by rfl, ?yc0⟩) hHeld ?rc0
          case yc0 => (intro W hW; go_simp; first | done | with_reducible rfl)
          try simp only [List.getElem_toArray, List.getElem_cons_zero, Act.put, List.setIfInBounds_toArray, List.set_cons_zero, List.set_cons_succ]
          refine anyI_take (i := 1) (v := ?vc1) (by kernel_rfl) rfl (by kernel_rfl) (by kernel_rfl) (by kernel_rfl) (fun _ _ _ h => h) (fun _ => rfl) (Or.inl ⟨by rfl, ?yc1⟩) hHeld ?rc1
          case yc1 => (intro W hW; go_simp; first | done | with_reducible rfl)
          try simp only [List.getElem_toArray, List.getElem_cons_succ, List.getElem_cons_zero, Act.put, List.setIfInBounds_toArray, List.set_cons_zero, List.set_cons_succ]
          refine anyI_take (i := 2) (v := ?vc2) (by kernel_rfl) rfl (by kernel_rfl) (by kernel_rfl) (by kernel_rfl) (fun _ _ _ h => h) (fun _ => rfl) (Or.inl ⟨by rfl, ?yc2⟩) hHeld ?rc2
          case yc2 => (intro W hW; go_simp; first | done | with_reducible rfl)
          try simp only [List.getElem_toArray, List.getElem_cons_succ, List.getElem_cons_zero, Act.put, List.setIfInBounds_toArray, List.set_cons_zero, List.set_cons_succ]
          refine anyI_take (i := 3) (v := ?vc3) (by kernel_rfl) rfl (by kernel_rfl) (by kernel_rfl) (by kernel_rfl) (fun _ _ _ h => h) (fun _ => rfl) (Or.inl ⟨by rfl, ?yc3⟩) hHeld ?rc3
          case yc3 => (intro W hW; go_simp; first | done | with_reducible rfl)
          try simp only [List.getElem_toArray, List.getElem_cons_succ, List.getElem_cons_zero, Act.put, List.setIfInBounds_toArray, List.set_cons_zero, List.set_cons_succ]
          refine anyI_take (i := 4) (v := ?vc4) (by kernel_rfl) rfl (by kernel_rfl) (by kernel_rfl) (by kernel_rfl) (fun _ _ _ h => h) (fun _ => rfl) (Or.inl ⟨by rfl, ?yc4⟩) hHeld ?rc4
          case yc4 => (intro W hW; go_simp; first | done | with_reducible rfl)
          try simp only [List.getElem_toArray, List.getElem_cons_succ, List.getElem_cons_zero, Act.put, List.setIfInBounds_toArray, List.set_cons_zero, List.set_cons_succ]
          refine anyI_take (i := 5) (v := undef) (by kernel_rfl) rfl (by kernel_rfl) (by kernel_rfl) (by kernel_rfl) (fun _ _ _ h => h) (fun _ => rfl) (Or.inr ⟨by rfl, rfl⟩) hHeld ?rc5
          try simp only [List.getElem_toArray, List.getElem_cons_succ, List.getElem_cons_zero, Act.put, List.setIfInBounds_toArray, List.set_cons_zero, List.set_cons_succ]
          refine anyI_take (i := 6) (v := undef) (by kernel_rfl) rfl (by kernel_rfl) (by kernel_rfl) (by kernel_rfl) (fun _ _ _ h => h) (fun _ => rfl) (Or.inr ⟨by rfl, rfl⟩) hHeld ?rc6
          try simp only [List.getElem_toArray, List.getElem_cons_succ, List.getElem_cons_zero, Act.put, List.setIfInBounds_toArray, List.set_cons_zero, List.set_cons_succ]
          refine anyI_take (i := 7) (v := undef) (by kernel_rfl) rfl (by kernel_rfl) (by kernel_rfl) (by kernel_rfl) (fun _ _ _ h => h) (fun _ => rfl) (Or.inr ⟨by rfl, rfl⟩) hHeld ?rc7
          try simp only [List.getElem_toArray, List.getElem_cons_succ, List.getElem_cons_zero, Act.put, List.setIfInBounds_toArray, List.set_cons_zero, List.set_cons_succ]
          refine anyI_take (i := 8) (v := undef) (by kernel_rfl) rfl (by kernel_rfl) (by kernel_rfl) (by kernel_rfl) (fun _ _ _ h => h) (fun _ => rfl) (Or.inr ⟨by rfl, rfl⟩) hHeld ?rc8
          try simp only [List.getElem_toArray, List.getElem_cons_succ, List.getElem_cons_zero, Act.put, List.setIfInBounds_toArray, List.set_cons_zero, List.set_cons_succ]
          refine anyI_take (i := 9) (v := undef) (by kernel_rfl) rfl (by kernel_rfl) (by kernel_rfl) (by kernel_rfl) (fun _ _ _ h => h) (fun _ => rfl) (Or.inr ⟨by rfl, rfl⟩) hHeld ?rc9
          try simp only [List.getElem_toArray, List.getElem_cons_succ, List.getElem_cons_zero, Act.put, List.setIfInBounds_toArray, List.set_cons_zero, List.set_cons_succ]
          refine anyI_take (i := 10) (v := undef) (by kernel_rfl) rfl (by kernel_rfl) (by kernel_rfl) (by kernel_rfl) (fun _ _ _ h => h) (fun _ => rfl) (Or.inr ⟨by rfl, rfl⟩) hHeld ?rc10
          try simp only [List.getElem_toArray, List.getElem_cons_succ, List.getElem_cons_zero, Act.put, List.setIfInBounds_toArray, List.set_cons_zero, List.set_cons_succ]
          refine anyI_take (i := 11) (v := undef) (by kernel_rfl) rfl (by kernel_rfl) (by kernel_rfl) (by kernel_rfl) (fun _ _ _ h => h) (fun _ => rfl) (Or.inr ⟨by rfl, rfl⟩) hHeld ?rc11
          try simp only [List.getElem_toArray, List.getElem_cons_succ, List.getElem_cons_zero, Act.put, List.setIfInBounds_toArray, List.set_cons_zero, List.set_cons_succ]
          refine anyI_take (i := 12) (v := undef) (by kernel_rfl) rfl (by kernel_rfl) (by kernel_rfl) (by kernel_rfl) (fun _ _ _ h => h) (fun _ => rfl) (Or.inr ⟨by rfl, rfl⟩) hHeld ?rc12
          try simp only [List.getElem_toArray, List.getElem_cons_succ, List.getElem_cons_zero, Act.put, List.setIfInBounds_toArray, List.set_cons_zero, List.set_cons_succ]
          refine anyI_take (i := 13) (v := undef) (by kernel_rfl) rfl (by kernel_rfl) (by kernel_rfl) (by kernel_rfl) (fun _ _ _ h => h) (fun _ => rfl) (Or.inr ⟨by rfl, rfl⟩) hHeld ?rc13
          try simp only [List.getElem_toArray, List.getElem_cons_succ, List.getElem_cons_zero, Act.put, List.setIfInBounds_toArray, List.set_cons_zero, List.set_cons_succ]
          refine anyI_ready (rs := [14]) (by kernel_rfl) (by simp) ?_
          refine AllI.skip rfl (by rfl) (fun _ => trivial) trivial ?_ (AllI.nil)
          try simp only [List.getElem_toArray, List.getElem_cons_succ, List.getElem_cons_zero, Act.put, List.setIfInBounds_toArray, List.set_cons_zero, List.set_cons_succ]
          refine anyI_take (i := 15) (v := undef) (by kernel_rfl) rfl (by kernel_rfl) (by kernel_rfl) (by kernel_rfl) (fun _ _ _ h => h) (fun _ => rfl) (Or.inr ⟨by rfl, rfl⟩) hHeld ?rc15
          try simp only [List.getElem_toArray, List.getElem_cons_succ, List.getElem_cons_zero, Act.put, List.setIfInBounds_toArray, List.set_cons_zero, List.set_cons_succ]
          refine anyI_take (i := 16) (v := ?vc16) (by kernel_rfl) rfl (by kernel_rfl) (by kernel_rfl) (by kernel_rfl) (fun _ _ _ h => h) (fun _ => rfl) (Or.inl ⟨by rfl, ?yc16⟩) hHeld ?rc16
          case yc16 => (intro W hW; go_simp; first | done | with_reducible rfl)
          try simp only [List.getElem_toArray, List.getElem_cons_succ, List.getElem_cons_zero, Act.put, List.setIfInBounds_toArray, List.set_cons_zero, List.set_cons_succ]
          refine anyI_done (by kernel_rfl) ?_ _
          obtain ⟨fn, tmps, assign, body, hy, hR⟩ := hY [] () W1.drew HJd.out (by simp)
          have i1 : ((N : Int)) ≤ (c : Int) := by omega
          gi_wp2
          refine hR.mono ?_
          rintro e W3 (⟨rfl, hJ3, -⟩ | ⟨rfl, hJx3⟩)
          · have HJ3 := Lib.hid hJ3
            clear hJ3 hy
            gi_wp2
            exact ⟨.inr ⟨_, _, rfl, HJ3.out⟩, by simp [lenOf]; omega⟩
          · gi_wp2
            refine bodyPost_ret (results_none rfl _ _ _) rfl ?_
            exact ⟨⟨_, rfl⟩, .inr ⟨_, trivial, hJx3⟩⟩
    · have d1 : decide ((0 : Int) < ((0 : Nat) : Int)) = false := rfl
      gi_wp2
      go_end0
      exact ⟨⟨_, rfl⟩, .inl ⟨_, rfl, hJ⟩⟩
theorem alike1_stops (n : Nat) (hn : 1 ≤ n) (Bs : Nat) (ad : Addr) (c N : Nat) (L : List Cel) (key : List Int) (hN : N = L.length) (hN0 : 0 < N) (hN1 : N ≤ 1000000) (hc : N ≤ c) (hkey : OneKey key L) (hkl : key.length ≤ 1000000)
    (w : World) (hBs : Bs < w.heap.size) (hb : w.cell? ⟨Bs, 0, none⟩ = some (.slice (some ad) N c)) (hl : CellsR w ad L) :
    SeqStopsK Fence.wide n Tryd.prog 79 #[.pointer (some ⟨Bs, 0, none⟩)] (fun _ : Unit => #[.slice (some ad) N c]) (fun _ _ => True) (fun ys => ys.length = 1) (fun _ => True) 1 w := fun l J Jx W hW hA _ hY h0 =>
  alike1_in n hn l Bs ad c N L key hN hN0 hN1 hc hkey hkl J Jx W hA hY ((hW.cell (p := ⟨Bs, 0, none⟩) hBs).trans hb) (hl.keep (Keeps.of_below hW)) h0
set_option maxHeartbeats 1000000 in
theorem alike_in (P : Option Addr) (m c : Nat) (w : World) :
    Calls Tryd.prog 52 #[.slice P m c] w fun e w' => e = .returned (.func (.func 79) #[] #[.pointer (some ⟨w.heap.size, 0, none⟩)]) ∧ w' = w.alloc (.cells #[.slice P m c] 31) := by
  go_enter Tryd.func52, Tryd.ntmps52
  go_wp2
  go_ret
  exact ⟨rfl, rfl⟩
end Go.Proofs.YtbkcclmhgnplcaaDoor
