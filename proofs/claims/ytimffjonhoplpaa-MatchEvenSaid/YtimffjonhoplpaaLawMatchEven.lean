/- The law MatchEven. -/
import Derived.Test.YtimffjonhoplpaaMatL
namespace Go.Proofs.Ytimffjonhoplpaa
open Go.RowKit Go.Shelf
attribute [local go_sem] Oper.semAt_some
/-- Where all cost one. -/
def evenM (n m : Nat) (c : Int) : List (List Int) := List.replicate n (List.replicate m c)
theorem even_ok {n m : Nat} {c : Int} (hm : m ≤ 12) (hn : n ≤ m) (h0 : 0 ≤ c) (h1 : c ≤ 1000000) : okM (evenM n m c) = true :=
  okM_of hm (by simp [evenM]; exact hn) (fun r hr => by
    rw [(List.mem_replicate.1 hr).2]
    exact ⟨by simp, fun x hx => by rw [(List.mem_replicate.1 hx).2]; omega⟩)
theorem even_sum (m : Nat) (c : Int) : ∀ (n s : Nat) (d : List Nat), Ok (evenM n m c) s d → sumC (evenM n m c) d = n * c
  | 0, s, [], _ => by simp [evenM, sumC]
  | 0, _, _ :: _, h => by simp [evenM, Ok] at h
  | n + 1, s, [], h => by simp [evenM, List.replicate_succ, Ok] at h
  | n + 1, s, k :: ks, h => by
    unfold evenM at h ⊢
    rw [List.replicate_succ] at h ⊢
    obtain ⟨h1, h2, h3⟩ := h
    have ih := even_sum m c n _ ks h3
    unfold evenM at ih
    show cst (List.replicate m c) k + sumC (List.replicate n (List.replicate m c)) ks = _
    rw [ih]
    have hc : cst (List.replicate m c) k = c := by
      unfold cst
      rw [List.length_replicate] at h1
      rw [List.getElem?_replicate, if_pos h1]
      rfl
    rw [hc]
    push_cast
    rw [Int.add_mul]
    omega
/-- The first choice of all. -/
theorem lex_range : ∀ (n a : Nat) (d : List Nat), d.length = n → d.Nodup → (∀ k ∈ d, a ≤ k) → ¬ lexlt d (List.range' a n)
  | 0, a, [], _, _, _ => fun h => h
  | 0, _, _ :: _, h, _, _ => by simp at h
  | n + 1, a, [], h, _, _ => by simp at h
  | n + 1, a, k :: ks, h, hn, hk => by
    rw [List.range'_succ]
    rintro (h1 | ⟨rfl, h1⟩)
    · have := hk k (List.mem_cons_self ..); omega
    · rw [List.nodup_cons] at hn
      refine lex_range n (k + 1) ks (by simpa using h) hn.2 (fun x hx => ?_) h1
      have := hk x (List.mem_cons_of_mem _ hx)
      have : x ≠ k := fun e => hn.1 (e ▸ hx)
      omega
theorem even_fst {n m : Nat} {c : Int} (hm : m ≤ 12) (hn : n ≤ m) (h0 : 0 ≤ c) (h1 : c ≤ 1000000) : toL (evenM n m c) = (List.range n).map (fun (k : Nat) => (k : Int)) ∧ totL (evenM n m c) = n * c := by
  have hok := even_ok hm hn h0 h1
  have hroom := room_ok hok
  have hrow : ∀ r ∈ evenM n m c, r.length = m := fun r hr => by rw [(List.mem_replicate.1 hr).2]; simp
  have hroom' : Room (evenM n m c) m 0 := ⟨hrow, by rw [free_zero]; simp [evenM]; exact hn⟩
  have hr : Ok (evenM n m c) 0 (List.range n) := Ok_of hrow (by simp [evenM]) List.nodup_range (fun k hk => by have := List.mem_range.1 hk; omega)
  have hR := restR_eq hroom' hr (fun d hd => by rw [even_sum m c n 0 _ hr, even_sum m c n 0 d hd]; exact Int.le_refl _)
  have hs := even_sum m c n 0 _ hr
  have hf := fst1_eq hroom' hr hR.symm (fun d hd _ => by
    obtain ⟨d1, d2, d3⟩ := (Ok_iff _ m 0 d hrow).1 hd
    rw [List.range_eq_range']
    exact lex_range n 0 d (by rw [d1]; simp [evenM]) d2 (fun k _ => Nat.zero_le _))
  refine ⟨by rw [toL_ok hok, hf], by rw [totL_ok hok, hR, hs]⟩
set_option maxRecDepth 100000 in
set_option maxHeartbeats 8000000 in
theorem matchEven_walk (a0 a1 a2 : Int) (w : World) (h0 : inK .i64 a0) (h1 : inK .i64 a1) (h2 : inK .i64 a2) :
    Calls Try.prog 9 #[.int .i64 a0, .int .i64 a1, .int .i64 a2] w fun e w' => e = .returned (.bool true) ∧ Below w.heap.size w w' := by
  have HW1 := Lib.hid (fun W => mwithin a0 7 W h0 (by omega) (by omega))
  have HW2 := Lib.hid (fun W => mwithin a1 6 W h1 (by omega) (by omega))
  have HW3 := Lib.hid (fun W => mwithin a2 1000001 W h2 (by omega) (by omega))
  obtain ⟨n, hn⟩ : ∃ n : Nat, a0 % 7 = (n : Int) := ⟨(a0 % 7).toNat, by omega⟩
  obtain ⟨m6, hm6⟩ : ∃ m6 : Nat, a1 % 6 = (m6 : Int) := ⟨(a1 % 6).toNat, by omega⟩
  obtain ⟨x, hx⟩ : ∃ x : Int, a2 % 1000001 = x := ⟨_, rfl⟩
  rw [hn] at HW1
  rw [hm6] at HW2
  rw [hx] at HW3
  obtain ⟨m, hm⟩ : ∃ m, m = n + m6 := ⟨_, rfl⟩
  have n6 : n ≤ 6 := by omega
  have m11 : m ≤ 11 := by omega
  have hnm : n ≤ m := by omega
  have hmz : (n : Int) + (m6 : Int) = (m : Int) := by omega
  have x0 : 0 ≤ x := by omega
  have x1 : x ≤ 1000000 := by omega
  obtain ⟨e1, e2⟩ := even_fst (n := n) (m := m) (c := x) (by omega) hnm x0 x1
  have HE1 := Lib.hid e1
  have HE2 := Lib.hid e2
  have HOK := Lib.hid (even_ok (n := n) (m := m) (c := x) (by omega) hnm x0 x1)
  have hnx0 : 0 ≤ (n : Int) * x := Int.mul_nonneg (by omega) x0
  have hnx1 : (n : Int) * x ≤ 6 * 1000000 := Int.mul_le_mul (by omega) x1 x0 (by omega)
  clear hn hm6 hx hm e1 e2
  go_enter Try.func9, Try.ntmps9
  go_wp2_with fail
  refine (known9_any w).mono ?_
  rintro e w1 ⟨rfl, hb1⟩
  have HB1 := Lib.hid hb1
  have hz1 := hb1.size
  clear hb1
  go_wp2_with fail
  refine (HW1.out w1).mono ?_
  rintro e w' ⟨rfl, rfl⟩
  go_wp2_with fail
  refine (HW2.out w1).mono ?_
  rintro e w' ⟨rfl, rfl⟩
  go_wp2_with fail
  refine (HW3.out w1).mono ?_
  rintro e w' ⟨rfl, rfl⟩
  go_wp2
  go_loopw [10, 11] (fun v p wr => ∃ (i : Nat) (us : List Value), p = .int .i64 i ∧ i ≤ n ∧ OM w.heap.size wr v (evenM i m x) us ∧ Below w.heap.size w wr) (fun _ p _ => n - (intOf p).toNat)
  case atStart => exact ⟨0, [], rfl, Nat.zero_le _, OM.nil _ _, HB1.out⟩
  case round =>
    obtain ⟨i, us, rfl, hi, hom, hb⟩ := hrel
    rename World => wr
    have HO := Lib.hid hom
    have HB := Lib.hid hb
    clear hom hb
    by_cases hlt : i < n
    · have hltz : (i : Int) < (n : Int) := by omega
      go_wp2
      go_loopw [12, 13] (fun u p wq => ∃ k : Nat, p = .int .i64 k ∧ k ≤ m ∧ OI wr.heap.size wq u (List.replicate k x) ∧ Below wr.heap.size wr wq) (fun _ p _ => m - (intOf p).toNat)
      case atStart => exact ⟨0, rfl, Nat.zero_le _, OI.nil _ _, Below.refl _ _⟩
      case round =>
        obtain ⟨k, rfl, hk, ho, hbq⟩ := hrel
        rename World => wq
        have HOq := Lib.hid ho
        have HBq := Lib.hid hbq
        clear ho hbq
        by_cases hkm : k < m
        · have hkz : (k : Int) < (m : Int) := by omega
          obtain ⟨v', w', hrun, ho', hb'⟩ := oi_push x HOq.out (by constructor <;> omega) (by simp; omega) HBq.out.size
          rw [← List.replicate_succ'] at ho'
          have Hrun := Lib.hid hrun
          have HO' := Lib.hid ho'
          have HB' := Lib.hid (HBq.out.trans hb')
          clear hrun ho' hb'
          go_wp2_with (at_builtin; have _t := Hrun; refine wpList_append_eq rfl (.tmp 38) (.tmp 40) 22 rfl _ _ _ _ rfl rfl Hrun.out ?_; clear _t Hrun)
          go_roundw
          case rel => exact ⟨k + 1, by go_num, by omega, HO'.out, HB'.out⟩
          case measure => simp [intOf]; omega
        · obtain rfl : k = m := by omega
          obtain ⟨P, cu, rfl, -⟩ := HOq.out.form
          rw [List.length_replicate] at HOq ⊢
          obtain ⟨v', w', hrun, ho', hb'⟩ := om_append (HO.out.below HBq.out) (HOq.out.mono HB.out.size) (OM.apart_new HO.out HOq.out (Nat.le_refl _)) (by simp [evenM]; omega) (by have := HB.out.size; have := HBq.out.size; omega)
          have he : evenM i k x ++ [List.replicate k x] = evenM (i + 1) k x := by unfold evenM; rw [List.replicate_succ']
          rw [he] at ho'
          have Hrun := Lib.hid hrun
          have HO' := Lib.hid ho'
          have HB' := Lib.hid ((HB.out.trans (HBq.out.mono HB.out.size)).trans hb')
          clear hrun ho' hb' he
          go_wp2_with (at_builtin; have _t := Hrun; refine wpList_append_eq rfl (.tmp 42) (.tmp 44) 24 rfl _ _ _ _ rfl rfl Hrun.out ?_; clear _t Hrun)
          go_roundw
          case rel => exact ⟨i + 1, _, by go_num, by omega, HO'.out, HB'.out⟩
          case measure => simp [intOf]; omega
    · obtain rfl : i = n := by omega
      obtain ⟨A, c, rfl, hmat⟩ := HO.out.mat
      have hlen : (evenM i m x).length = i := by simp [evenM]
      rw [hlen] at hmat ⊢
      have HM := Lib.hid hmat
      have hrl : ∀ r ∈ evenM i m x, r.length ≤ 1000000 := fun r hr => by rw [(List.mem_replicate.1 hr).2]; simp; omega
      have hA := assign_any A i c _ wr hmat (by omega) hrl
      rw [HE1.out, HE2.out, HOK.out] at hA
      have HA := Lib.hid hA
      clear hmat hlen hrl hA
      go_wp2_with fail
      refine HA.out.mono ?_
      rintro e w3 ⟨v1, rfl, ho1, hb3⟩
      have HB3 := Lib.hid (HB.out.trans (hb3.mono HB.out.size))
      obtain ⟨P1, c1, rfl, -, -, hn1, -⟩ := ho1.form
      have hl1 : ((List.range i).map (fun (k : Nat) => (k : Int))).length = i := by simp
      rw [hl1] at hn1 ⊢
      have HN1 := Lib.hid hn1
      have hne1 : ((i : Int) * x != (i : Int) * x) = false := by simp
      have hne2 : ((i : Int) != (i : Int)) = false := by simp
      clear hb3 ho1 hn1 hl1 HA
      go_wp2
      go_loop [17] (fun p => ∃ k : Nat, p = .int .i64 k ∧ k ≤ i) (fun p => i - (intOf p).toNat)
      case atStart => exact ⟨0, rfl, Nat.zero_le _⟩
      case round =>
        obtain ⟨k, rfl, hk⟩ := hrel
        by_cases hki : k < i
        · have hkz : (k : Int) < (i : Int) := by omega
          have k0 : (0 : Int) ≤ (k : Int) := by omega
          obtain ⟨ad, y, rfl, hy, -, hcy⟩ := HN1.out.at_ hki
          have hyk : y = (k : Int) := by
            rw [List.getElem?_map, List.getElem?_range hki] at hy
            simpa using hy.symm
          subst hyk
          have hne3 : ((k : Int) != (k : Int)) = false := by simp
          clear hy
          go_wp2
          go_round
          case rel => exact ⟨k + 1, by go_num, by omega⟩
          case measure => simp [intOf]; omega
        · obtain rfl : k = i := by omega
          have hkk : decide ((k : Int) < (k : Int)) = false := by simp
          go_wp2
          go_ret
          exact ⟨rfl, HB3.out⟩
end Go.Proofs.Ytimffjonhoplpaa
