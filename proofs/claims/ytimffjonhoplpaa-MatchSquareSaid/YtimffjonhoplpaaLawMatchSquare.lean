/- The law MatchSquare. -/
import Derived.Test.YtimffjonhoplpaaMatU
import Derived.Test.YtimffjonhoplpaaRints
namespace Go.Proofs.Ytimffjonhoplpaa
open Go.RowKit Go.Shelf
attribute [local go_sem] Oper.semAt_some
/-- 0 where a row's own column is, more elsewhere. -/
def Diag : List (List Int) → List Nat → Prop
  | [], [] => True
  | row :: rows, a :: T => cst row a = 0 ∧ (∀ b, b < row.length → 0 ≤ cst row b ∧ (cst row b = 0 → b = a)) ∧ Diag rows T
  | _, _ => False
theorem Diag_of : ∀ (M : List (List Int)) (T : List Nat), M.length = T.length → (∀ (i : Nat) (row : List Int) (a : Nat), M[i]? = some row → T[i]? = some a → cst row a = 0 ∧ ∀ b, b < row.length → 0 ≤ cst row b ∧ (cst row b = 0 → b = a)) → Diag M T
  | [], [], _, _ => trivial
  | [], _ :: _, h, _ => by simp at h
  | _ :: _, [], h, _ => by simp at h
  | row :: rows, a :: T, h, hp => ⟨(hp 0 row a rfl rfl).1, (hp 0 row a rfl rfl).2, Diag_of rows T (by simpa using h) (fun i r b hr hb => hp (i + 1) r b (by simpa using hr) (by simpa using hb))⟩
theorem Diag.sum : ∀ {M : List (List Int)} {T : List Nat}, Diag M T → sumC M T = 0
  | [], [], _ => rfl
  | [], _ :: _, h => h.elim
  | _ :: _, [], h => h.elim
  | row :: rows, a :: T, ⟨h1, _, h3⟩ => by show cst row a + sumC rows T = 0; rw [h1, h3.sum]; rfl
theorem Diag.least : ∀ {M : List (List Int)} {T : List Nat}, Diag M T → ∀ {s : Nat} {d : List Nat}, Ok M s d → 0 ≤ sumC M d ∧ (sumC M d = 0 → d = T)
  | [], [], _, _, [], _ => ⟨Int.le_refl _, fun _ => rfl⟩
  | [], [], _, _, _ :: _, h => h.elim
  | [], _ :: _, h, _, _, _ => h.elim
  | _ :: _, [], h, _, _, _ => h.elim
  | _ :: _, _ :: _, _, _, [], h => h.elim
  | row :: rows, a :: T, ⟨h1, h2, h3⟩, s, k :: ks, ⟨g1, g2, g3⟩ => by
    obtain ⟨i1, i2⟩ := h3.least g3
    obtain ⟨j1, j2⟩ := h2 k g1
    show 0 ≤ cst row k + sumC rows ks ∧ (cst row k + sumC rows ks = 0 → _)
    exact ⟨by omega, fun h => by rw [j2 (by omega), i2 (by omega)]⟩
theorem lex_irrefl : ∀ (d : List Nat), ¬ lexlt d d
  | [] => fun h => h
  | a :: t => by rintro (h | ⟨_, h⟩); omega; exact lex_irrefl t h
/-- What stands in row i, column j. -/
def entS (zs : List Int) (T : List Nat) (k i j : Nat) : Int := if T[i]? = some j then 0 else match zs[i * k + j]? with | some z => 1 + z % 99 | none => 1
def rowS (zs : List Int) (T : List Nat) (k i n : Nat) : List Int := (List.range n).map (entS zs T k i)
def matS (zs : List Int) (T : List Nat) (k n m : Nat) : List (List Int) := (List.range k).map fun i => if i < n then rowS zs T k i k else if i = n then rowS zs T k i m else []
theorem entS_in (zs : List Int) (T : List Nat) (k i j : Nat) : 0 ≤ entS zs T k i j ∧ entS zs T k i j ≤ 99 ∧ (entS zs T k i j = 0 → T[i]? = some j) := by
  unfold entS
  split
  · rename_i h; exact ⟨by omega, by omega, fun _ => h⟩
  · split
    · rename_i z _
      have h3 := Int.emod_nonneg z (show (99 : Int) ≠ 0 by omega)
      have h4 := Int.emod_lt_of_pos z (show (0 : Int) < 99 by omega)
      exact ⟨by omega, by omega, fun h => by omega⟩
    · exact ⟨by omega, by omega, fun h => by omega⟩
theorem matS_len (zs : List Int) (T : List Nat) (k n m : Nat) : (matS zs T k n m).length = k := by simp [matS]
theorem matS_zero (zs : List Int) (T : List Nat) (k : Nat) : matS zs T k 0 0 = List.replicate k [] := by
  apply List.ext_getElem
  · simp [matS]
  · intro i h1 h2
    simp only [matS, List.getElem_map, List.getElem_range, List.getElem_replicate]
    rw [if_neg (by omega)]
    split
    · rfl
    · rfl
theorem matS_at (zs : List Int) (T : List Nat) {k n m : Nat} (h : n < k) : (matS zs T k n m)[n]? = some (rowS zs T k n m) := by
  unfold matS
  rw [List.getElem?_map, List.getElem?_range h]
  simp
theorem matS_set (zs : List Int) (T : List Nat) {k n m : Nat} : (matS zs T k n m).set n (rowS zs T k n m ++ [entS zs T k n m]) = matS zs T k n (m + 1) := by
  apply List.ext_getElem
  · simp [matS]
  · intro i h1 h2
    simp only [matS, List.getElem_set, List.getElem_map, List.getElem_range]
    by_cases h : n = i
    · subst h; simp [rowS, List.range_succ]
    · rw [if_neg h]
      by_cases h3 : i < n
      · rw [if_pos h3, if_pos h3]
      · rw [if_neg h3, if_neg h3, if_neg (by omega), if_neg (by omega)]
theorem matS_next (zs : List Int) (T : List Nat) {k n : Nat} : matS zs T k n k = matS zs T k (n + 1) 0 := by
  unfold matS
  apply List.map_congr_left
  intro i _
  by_cases h3 : i < n
  · rw [if_pos h3, if_pos (by omega)]
  · by_cases h4 : i = n
    · subst h4; rw [if_neg (by omega), if_pos rfl, if_pos (by omega)]
    · rw [if_neg h3, if_neg h4, if_neg (by omega)]
      split
      · rfl
      · rfl
theorem matS_row {zs : List Int} {T : List Nat} {k i : Nat} {row : List Int} (h : (matS zs T k k 0)[i]? = some row) : i < k ∧ row = rowS zs T k i k := by
  unfold matS at h
  rw [List.getElem?_map] at h
  rcases Nat.lt_or_ge i k with hi | hi
  · rw [List.getElem?_range hi] at h
    simp only [Option.map_some, Option.some.injEq] at h
    rw [if_pos hi] at h
    exact ⟨hi, h.symm⟩
  · rw [List.getElem?_eq_none (by simpa using hi)] at h
    cases h
theorem rowS_cst (zs : List Int) (T : List Nat) {k i j n : Nat} (h : j < n) : cst (rowS zs T k i n) j = entS zs T k i j := by
  unfold cst rowS
  rw [List.getElem?_map, List.getElem?_range h]
  rfl
theorem sq_fst {zs : List Int} {T : List Nat} {k : Nat} (h0 : 1 ≤ k) (h8 : k ≤ 8) (hT : T.Perm (List.range k)) : okM (matS zs T k k 0) = true ∧ toL (matS zs T k k 0) = T.map (fun (x : Nat) => (x : Int)) ∧ totL (matS zs T k k 0) = 0 := by
  obtain ⟨t1, t2, t3⟩ := perm_spec hT
  have hrow : ∀ r ∈ matS zs T k k 0, r.length = k ∧ ∀ x ∈ r, 0 ≤ x ∧ x ≤ 1000000 := fun r hr => by
    obtain ⟨i, hi⟩ := List.mem_iff_getElem?.1 hr
    obtain ⟨_, rfl⟩ := matS_row hi
    refine ⟨by simp [rowS], fun x hx => ?_⟩
    unfold rowS at hx
    obtain ⟨j, -, rfl⟩ := List.mem_map.1 hx
    have := entS_in zs T k i j
    omega
  have hok := okM_of (M := matS zs T k k 0) (m := k) (by omega) (by rw [matS_len]; exact Nat.le_refl _) hrow
  have hroom : Room (matS zs T k k 0) k 0 := ⟨fun r hr => (hrow r hr).1, by rw [free_zero, matS_len]; exact Nat.le_refl _⟩
  have hd : Diag (matS zs T k k 0) T := Diag_of _ _ (by rw [matS_len, t1]) (fun i row a hr ha => by
    obtain ⟨hi, rfl⟩ := matS_row hr
    have hak := t3 a (List.mem_of_getElem? ha)
    refine ⟨?_, fun b hb => ?_⟩
    · rw [rowS_cst zs T hak]; unfold entS; rw [if_pos ha]
    · have hbk : b < k := by simpa [rowS] using hb
      rw [rowS_cst zs T hbk]
      obtain ⟨e1, _, e3⟩ := entS_in zs T k i b
      refine ⟨e1, fun h => ?_⟩
      have := e3 h
      rw [ha] at this
      exact (Option.some.inj this).symm)
  have hO : Ok (matS zs T k k 0) 0 T := Ok_of (fun r hr => (hrow r hr).1) (by rw [matS_len, t1]) t2 t3
  have hR := restR_eq hroom hO (fun d hd' => by rw [hd.sum]; exact (hd.least hd').1)
  rw [hd.sum] at hR
  have hf := fst1_eq hroom hO (by rw [hd.sum, hR]) (fun d hd' he => by
    rw [hR] at he
    rw [(hd.least hd').2 he]
    exact lex_irrefl T)
  exact ⟨hok, by rw [toL_ok hok, hf], by rw [totL_ok hok, hR]⟩
set_option maxRecDepth 100000 in
set_option maxHeartbeats 8000000 in
theorem matchSquare_walk (a0 : Int) (a1 : Option Addr) (len1 cap1 : Nat) (z1 : List Int) (a2 : Option Addr) (len2 cap2 : Nat) (z2 : List Int) (w : World) (h0 : inK .i64 a0) (w1 : IsRow .i64 w a1 len1 cap1 z1) (w2 : IsRow .i64 w a2 len2 cap2 z2) :
    Calls Try.prog 7 #[.int .i64 a0, .slice a1 len1 cap1, .slice a2 len2 cap2] w fun e w' => e = .returned (.bool true) ∧ Below w.heap.size w w' := by
  have hn1 := w1.nums.1
  have hn2 := w2.nums.1
  obtain ⟨zs, hzs⟩ : ∃ zs, zs = z2.take len2 := ⟨_, rfl⟩
  rw [← hzs] at hn2
  have HN1 := Lib.hid hn1
  have HN2 := Lib.hid hn2
  have HW0 := Lib.hid (fun W => mwithin a0 8 W h0 (by omega) (by omega))
  obtain ⟨a8, ha8⟩ : ∃ a8, a8 = a0 % 8 := ⟨_, rfl⟩
  rw [← ha8] at HW0
  have a80 : 0 ≤ a8 := by omega
  have a87 : a8 ≤ 7 := by omega
  obtain ⟨k, hk⟩ : ∃ k : Nat, 1 + a8 = (k : Int) := ⟨(1 + a8).toNat, by omega⟩
  have hk1 : 1 ≤ k := by omega
  have hk8 : k ≤ 8 := by omega
  have hzl := hn2.len
  have HZL := Lib.hid hzl
  clear w1 w2 hn1 hn2 hzs ha8 hzl
  go_enter Try.func7, Try.ntmps7
  go_wp2_with fail
  refine (known9_any w).mono ?_
  rintro e w1 ⟨rfl, hb1⟩
  have HB1 := Lib.hid hb1
  have hz1 := hb1.size
  clear hb1
  go_wp2_with fail
  refine (HW0.out w1).mono ?_
  rintro e w' ⟨rfl, rfl⟩
  go_wp2
  clear hk
  go_loopw [8, 9] (fun v p wr => ∃ i : Nat, p = .int .i64 i ∧ i ≤ k ∧ OI w.heap.size wr v ((List.range i).map fun (k : Nat) => (k : Int)) ∧ Below w.heap.size w wr) (fun _ p _ => k - (intOf p).toNat)
  case atStart => exact ⟨0, rfl, Nat.zero_le _, OI.nil _ _, HB1.out⟩
  case round =>
    obtain ⟨i, rfl, hi, ho, hb⟩ := hrel
    rename World => wr
    have HO := Lib.hid ho
    have HB := Lib.hid hb
    clear ho hb
    by_cases hlt : i < k
    · have hltz : (i : Int) < (k : Int) := by omega
      obtain ⟨v', w', hrun, ho', hb'⟩ := oi_push (i : Int) HO.out (by constructor <;> omega) (by simp; omega) HB.out.size
      have he : ((List.range i).map fun (k : Nat) => (k : Int)) ++ [(i : Int)] = (List.range (i + 1)).map fun (k : Nat) => (k : Int) := by rw [List.range_succ, List.map_append]; rfl
      rw [he] at ho'
      have Hrun := Lib.hid hrun
      have HO' := Lib.hid ho'
      have HB' := Lib.hid (HB.out.trans hb')
      clear hrun ho' hb' he
      go_wp2_with (at_builtin; have _t := Hrun; refine wpList_append_eq rfl (.tmp 30) (.tmp 32) 22 rfl _ _ _ _ rfl rfl Hrun.out ?_; clear _t Hrun)
      go_roundw
      case rel => exact ⟨i + 1, by go_num, by omega, HO'.out, HB'.out⟩
      case measure => simp [intOf]; omega
    · obtain rfl : i = k := by omega
      have hkk : decide ((i : Int) < (i : Int)) = false := by simp
      go_wp2
      go_loopw [10] (fun p wq => ∃ (t : Nat) (T : List Nat), p = .int .i64 t ∧ t ≤ len1 ∧ t ≤ 20 ∧ T.Perm (List.range i) ∧ OI w.heap.size wq u8 (T.map fun (k : Nat) => (k : Int)) ∧ Below w.heap.size w wq) (fun p _ => len1 - (intOf p).toNat)
      case atStart => exact ⟨0, _, rfl, Nat.zero_le _, Nat.zero_le _, List.Perm.refl _, HO.out, HB.out⟩
      case round =>
        obtain ⟨t, T, rfl, ht, ht20, hT, ho, hb⟩ := hrel
        clear HO HB
        rename World => wq
        have HO := Lib.hid ho
        have HB := Lib.hid hb
        have HT := Lib.hid hT
        clear ho hb hT
        by_cases hlt2 : t < len1 ∧ t < 20
        · obtain ⟨hl1, hl2⟩ := hlt2
          have d1 : (t : Int) < (len1 : Int) := by omega
          have d2 : decide ((t : Int) < 20) = true := decide_eq_true (by omega)
          have t0 : (0 : Int) ≤ (t : Int) := by omega
          obtain ⟨ad, z, rfl, -, hzi, hcz⟩ := (HN1.out.keep (Keeps.of_below HB.out)).at_ hl1
          have HCZ := Lib.hid (show wq.drew.cell? (ad.add t) = some (.int .i64 z) from hcz)
          obtain ⟨pa, hpa⟩ : ∃ pa, pa = t % i := ⟨_, rfl⟩
          have hpaK : pa < i := by rw [hpa]; exact Nat.mod_lt _ (by omega)
          have htm : ((t : Int)).tmod (i : Int) = (pa : Int) := by rw [tmod_nat, hpa]
          obtain ⟨pb, hpb⟩ : ∃ pb : Nat, z % (i : Int) = (pb : Int) := ⟨(z % (i : Int)).toNat, by have := Int.emod_nonneg z (show (i : Int) ≠ 0 by omega); omega⟩
          have hpbK : pb < i := by have := Int.emod_lt_of_pos z (show (0 : Int) < i by omega); omega
          have HWJ := Lib.hid (fun W => mwithin z (i : Int) W hzi (by omega) (by omega))
          rw [hpb] at HWJ
          obtain ⟨hTl, hTn, hTb⟩ := perm_spec HT.out
          obtain ⟨xa, hxa⟩ : ∃ xa, T[pa]? = some xa := ⟨_, List.getElem?_eq_getElem (by rw [hTl]; exact hpaK)⟩
          obtain ⟨xb, hxb⟩ : ∃ xb, T[pb]? = some xb := ⟨_, List.getElem?_eq_getElem (by rw [hTl]; exact hpbK)⟩
          have hxa' : (T.map fun (k : Nat) => (k : Int))[pa]? = some (xa : Int) := by rw [List.getElem?_map, hxa]; rfl
          have hxb' : (T.map fun (k : Nat) => (k : Int))[pb]? = some (xb : Int) := by rw [List.getElem?_map, hxb]; rfl
          have hml : (T.map fun (k : Nat) => (k : Int)).length = i := by rw [List.length_map, hTl]
          obtain ⟨g, c, rfl, hg, hgl, hca, hfa⟩ := HO.out.cell hxa'
          obtain ⟨g2, c2, e2, -, -, hcb, hfb⟩ := HO.out.cell hxb'
          injection e2 with e3 _ e4
          injection e3 with e3
          injection e3 with e3
          subst e3 e4
          have hop := HO.out.put (i := pa) (xb : Int) (by have := hTb xb (List.mem_of_getElem? hxb); constructor <;> omega)
          obtain ⟨yp, hyp⟩ : ∃ yp, ((T.map fun (k : Nat) => (k : Int)).set pa (xb : Int))[pb]? = some yp := ⟨_, List.getElem?_eq_getElem (by rw [List.length_set, hml]; exact hpbK)⟩
          obtain ⟨g3, c3, e5, -, -, hcp, hfp⟩ := hop.cell hyp
          injection e5 with e6 _ e7
          injection e6 with e6
          injection e6 with e6
          subst e6
          clear e7 hyp hop
          have ho2 := (HO.out.put (i := pa) (xb : Int) (by have := hTb xb (List.mem_of_getElem? hxb); constructor <;> omega)).put (i := pb) (xa : Int) (by have := hTb xa (List.mem_of_getElem? hxa); constructor <;> omega)
          rw [← swp_cast, hml] at ho2
          have HO2 := Lib.hid ho2
          have HT2 := Lib.hid ((swp_perm hxa hxb).trans HT.out)
          rw [hml] at HO ⊢
          have hca' : wq.drew.drew.cell? ⟨g, pa, none⟩ = some (.int .i64 (xa : Int)) := hca
          have hcb' : wq.drew.drew.cell? ⟨g, pb, none⟩ = some (.int .i64 (xb : Int)) := hcb
          have HCC : Hid (wq.drew.drew.cell? ⟨g, pa, none⟩ = some (.int .i64 (xa : Int)) ∧ wq.drew.drew.cell? ⟨g, pb, none⟩ = some (.int .i64 (xb : Int))) := Lib.hid ⟨hca, hcb⟩
          have hfa' : wq.drew.drew.frozen? ⟨g, pa, none⟩ = false := hfa
          have hfb' : wq.drew.drew.frozen? ⟨g, pb, none⟩ = false := hfb
          have kn0 : ¬ i = 0 := by omega
          have a0 : (0 : Int) ≤ (pa : Int) := by omega
          have az : (pa : Int) < (i : Int) := by omega
          have b0 : (0 : Int) ≤ (pb : Int) := by omega
          have bz : (pb : Int) < (i : Int) := by omega
          clear hzi hpa hpb hTl hTn hTb hxa hxb hxa' hxb' hml hca hcb hfa hfb ho2
          go_wp2
          refine wp_region_held_drew (S := fun W => W.cell? (ad.add t) = some (.int .i64 z)) (by kernel_rfl) HCZ.out (fun hHeld => ?_)
          refine wpAnyH_take (i := 0) (v := ?vs0) rfl (by kernel_rfl) (by kernel_rfl) (by kernel_rfl) (fun _ _ _ h => h) (Or.inl ⟨by rfl, ?ys0⟩) hHeld ?rs0
          case ys0 => (intro W hW; go_simp; first | done | with_reducible rfl)
          try simp only [List.getElem_toArray, List.getElem_cons_zero, Act.put, List.setIfInBounds_toArray, List.set_cons_zero, List.set_cons_succ]
          refine wpAnyH_take (i := 1) (v := ?vs1) rfl (by kernel_rfl) (by kernel_rfl) (by kernel_rfl) (fun _ _ _ h => h) (Or.inl ⟨by rfl, ?ys1⟩) hHeld ?rs1
          case ys1 => (intro W hW; go_simp; first | done | with_reducible rfl)
          try simp only [List.getElem_toArray, List.getElem_cons_succ, List.getElem_cons_zero, Act.put, List.setIfInBounds_toArray, List.set_cons_zero, List.set_cons_succ]
          refine wpAnyH_take (i := 2) (v := ?vs2) rfl (by kernel_rfl) (by kernel_rfl) (by kernel_rfl) (fun _ _ _ h => h) (Or.inl ⟨by rfl, ?ys2⟩) hHeld ?rs2
          case ys2 => (intro W hW; go_simp; first | done | with_reducible rfl)
          try simp only [List.getElem_toArray, List.getElem_cons_succ, List.getElem_cons_zero, Act.put, List.setIfInBounds_toArray, List.set_cons_zero, List.set_cons_succ]
          refine wpAnyH_take (i := 3) (v := ?vs3) rfl (by kernel_rfl) (by kernel_rfl) (by kernel_rfl) (fun _ _ _ h => h) (Or.inl ⟨by rfl, ?ys3⟩) hHeld ?rs3
          case ys3 => (intro W hW; go_simp; first | done | with_reducible rfl)
          try simp only [List.getElem_toArray, List.getElem_cons_succ, List.getElem_cons_zero, Act.put, List.setIfInBounds_toArray, List.set_cons_zero, List.set_cons_succ]
          refine wpAnyH_take (i := 4) (v := ?vs4) rfl (by kernel_rfl) (by kernel_rfl) (by kernel_rfl) (fun _ _ _ h => h) (Or.inl ⟨by rfl, ?ys4⟩) hHeld ?rs4
          case ys4 => (intro W hW; go_simp; first | done | with_reducible rfl)
          try simp only [List.getElem_toArray, List.getElem_cons_succ, List.getElem_cons_zero, Act.put, List.setIfInBounds_toArray, List.set_cons_zero, List.set_cons_succ]
          refine wpAnyH_take (i := 5) (v := ?vs5) rfl (by kernel_rfl) (by kernel_rfl) (by kernel_rfl) (fun _ _ _ h => h) (Or.inl ⟨by rfl, ?ys5⟩) hHeld ?rs5
          case ys5 => (intro W hW; go_simp; first | done | with_reducible rfl)
          try simp only [List.getElem_toArray, List.getElem_cons_succ, List.getElem_cons_zero, Act.put, List.setIfInBounds_toArray, List.set_cons_zero, List.set_cons_succ]
          refine wpAnyH_take (i := 6) (v := ?vs6) rfl (by kernel_rfl) (by kernel_rfl) (by kernel_rfl) (fun _ _ _ h => h) (Or.inl ⟨by rfl, ?ys6⟩) hHeld ?rs6
          case ys6 => (intro W hW; go_simp; first | done | with_reducible rfl)
          try simp only [List.getElem_toArray, List.getElem_cons_succ, List.getElem_cons_zero, Act.put, List.setIfInBounds_toArray, List.set_cons_zero, List.set_cons_succ]
          refine wpAnyH_take (i := 7) (v := ?vs7) rfl (by kernel_rfl) (by kernel_rfl) (by kernel_rfl) (fun _ _ _ h => h) (Or.inl ⟨by rfl, ?ys7⟩) hHeld ?rs7
          case ys7 => (intro W hW; go_simp; first | done | with_reducible rfl)
          try simp only [List.getElem_toArray, List.getElem_cons_succ, List.getElem_cons_zero, Act.put, List.setIfInBounds_toArray, List.set_cons_zero, List.set_cons_succ]
          refine wpAnyH_ready (rs := [8]) (by kernel_rfl) (by simp) ?_
          refine AllReadyH.cons rfl (fun K hK => ?_) (AllReadyH.nil)
          go_simp
          refine (HWJ.out _).mono ?_
          rintro e w' ⟨rfl, rfl⟩
          refine hK.out _ _ (HCZ.out) (fun hHeld => ?_)
          clear hK K
          try simp only [List.getElem_toArray, List.getElem_cons_succ, List.getElem_cons_zero, Act.put, List.setIfInBounds_toArray, List.set_cons_zero, List.set_cons_succ]
          refine wpAnyH_take (i := 9) (v := ?vs9) rfl (by kernel_rfl) (by kernel_rfl) (by kernel_rfl) (fun _ _ _ h => h) (Or.inl ⟨by rfl, ?ys9⟩) hHeld ?rs9
          case ys9 => (intro W hW; go_simp; first | done | with_reducible rfl)
          try simp only [List.getElem_toArray, List.getElem_cons_succ, List.getElem_cons_zero, Act.put, List.setIfInBounds_toArray, List.set_cons_zero, List.set_cons_succ]
          refine wpAnyH_take (i := 10) (v := ?vs10) rfl (by kernel_rfl) (by kernel_rfl) (by kernel_rfl) (fun _ _ _ h => h) (Or.inl ⟨by rfl, ?ys10⟩) hHeld ?rs10
          case ys10 => (intro W hW; go_simp; first | done | with_reducible rfl)
          try simp only [List.getElem_toArray, List.getElem_cons_succ, List.getElem_cons_zero, Act.put, List.setIfInBounds_toArray, List.set_cons_zero, List.set_cons_succ]
          refine wpAnyH_done (by kernel_rfl) ?_ _
          go_wp2
          refine region_P (S := fun W => W.cell? ⟨g, pa, none⟩ = some (.int .i64 (xa : Int)) ∧ W.cell? ⟨g, pb, none⟩ = some (.int .i64 (xb : Int))) (kill := [13, 15]) (by kernel_rfl) HCC.out (fun hHeld => ?_)
          refine anyP_pure (i := 0) (v := ?vq0) rfl (by kernel_rfl) (by kernel_rfl) (by kernel_rfl) (by kernel_rfl) (fun _ _ _ h => h) (Or.inl ⟨by rfl, ?yq0⟩) ?rq0
          case yq0 => (intro W hW; go_simp; first | done | with_reducible rfl)
          try simp only [List.getElem_toArray, List.getElem_cons_zero, Act.put, List.setIfInBounds_toArray, List.set_cons_zero, List.set_cons_succ]
          refine anyP_pure (i := 1) (v := ?vq1) rfl (by kernel_rfl) (by kernel_rfl) (by kernel_rfl) (by kernel_rfl) (fun _ _ _ h => h) (Or.inl ⟨by rfl, ?yq1⟩) ?rq1
          case yq1 => (intro W hW; go_simp; first | done | with_reducible rfl)
          try simp only [List.getElem_toArray, List.getElem_cons_succ, List.getElem_cons_zero, Act.put, List.setIfInBounds_toArray, List.set_cons_zero, List.set_cons_succ]
          refine anyP_pure (i := 2) (v := ?vq2) rfl (by kernel_rfl) (by kernel_rfl) (by kernel_rfl) (by kernel_rfl) (fun _ _ _ h => h) (Or.inl ⟨by rfl, ?yq2⟩) ?rq2
          case yq2 => (intro W hW; go_simp; first | done | with_reducible rfl)
          try simp only [List.getElem_toArray, List.getElem_cons_succ, List.getElem_cons_zero, Act.put, List.setIfInBounds_toArray, List.set_cons_zero, List.set_cons_succ]
          refine anyP_pure (i := 3) (v := ?vq3) rfl (by kernel_rfl) (by kernel_rfl) (by kernel_rfl) (by kernel_rfl) (fun _ _ _ h => h) (Or.inl ⟨by rfl, ?yq3⟩) ?rq3
          case yq3 => (intro W hW; go_simp; first | done | with_reducible rfl)
          try simp only [List.getElem_toArray, List.getElem_cons_succ, List.getElem_cons_zero, Act.put, List.setIfInBounds_toArray, List.set_cons_zero, List.set_cons_succ]
          refine anyP_pure (i := 4) (v := ?vq4) rfl (by kernel_rfl) (by kernel_rfl) (by kernel_rfl) (by kernel_rfl) (fun _ _ _ h => h) (Or.inl ⟨by rfl, ?yq4⟩) ?rq4
          case yq4 => (intro W hW; go_simp; first | done | with_reducible rfl)
          try simp only [List.getElem_toArray, List.getElem_cons_succ, List.getElem_cons_zero, Act.put, List.setIfInBounds_toArray, List.set_cons_zero, List.set_cons_succ]
          refine anyP_pure (i := 5) (v := ?vq5) rfl (by kernel_rfl) (by kernel_rfl) (by kernel_rfl) (by kernel_rfl) (fun _ _ _ h => h) (Or.inl ⟨by rfl, ?yq5⟩) ?rq5
          case yq5 => (intro W hW; go_simp; first | done | with_reducible rfl)
          try simp only [List.getElem_toArray, List.getElem_cons_succ, List.getElem_cons_zero, Act.put, List.setIfInBounds_toArray, List.set_cons_zero, List.set_cons_succ]
          refine anyP_take (i := 6) (v := ?vq6) rfl (by kernel_rfl) (by kernel_rfl) (by kernel_rfl) (by kernel_rfl) (by kernel_rfl) (fun _ _ _ h => h) (Or.inl ⟨by rfl, ?yq6⟩) hHeld ?rq6
          case yq6 => (intro W hW; obtain ⟨hA, hB⟩ := hW; go_simp; first | done | with_reducible rfl)
          try simp only [List.getElem_toArray, List.getElem_cons_succ, List.getElem_cons_zero, Act.put, List.setIfInBounds_toArray, List.set_cons_zero, List.set_cons_succ]
          refine anyP_take (i := 7) (v := ?vq7) rfl (by kernel_rfl) (by kernel_rfl) (by kernel_rfl) (by kernel_rfl) (by kernel_rfl) (fun _ _ _ h => h) (Or.inl ⟨by rfl, ?yq7⟩) hHeld ?rq7
          case yq7 => (intro W hW; obtain ⟨hA, hB⟩ := hW; go_simp; first | done | with_reducible rfl)
          try simp only [List.getElem_toArray, List.getElem_cons_succ, List.getElem_cons_zero, Act.put, List.setIfInBounds_toArray, List.set_cons_zero, List.set_cons_succ]
          refine anyP_pure (i := 8) (v := ?vq8) rfl (by kernel_rfl) (by kernel_rfl) (by kernel_rfl) (by kernel_rfl) (fun _ _ _ h => h) (Or.inl ⟨by rfl, ?yq8⟩) ?rq8
          case yq8 => (intro W hW; go_simp; first | done | with_reducible rfl)
          try simp only [List.getElem_toArray, List.getElem_cons_succ, List.getElem_cons_zero, Act.put, List.setIfInBounds_toArray, List.set_cons_zero, List.set_cons_succ]
          refine anyP_pure (i := 9) (v := ?vq9) rfl (by kernel_rfl) (by kernel_rfl) (by kernel_rfl) (by kernel_rfl) (fun _ _ _ h => h) (Or.inl ⟨by rfl, ?yq9⟩) ?rq9
          case yq9 => (intro W hW; go_simp; first | done | with_reducible rfl)
          try simp only [List.getElem_toArray, List.getElem_cons_succ, List.getElem_cons_zero, Act.put, List.setIfInBounds_toArray, List.set_cons_zero, List.set_cons_succ]
          refine anyP_take (i := 10) (v := ?vq10) rfl (by kernel_rfl) (by kernel_rfl) (by kernel_rfl) (by kernel_rfl) (by kernel_rfl) (fun _ _ _ h => h) (Or.inl ⟨by rfl, ?yq10⟩) hHeld ?rq10
          case yq10 => (intro W hW; obtain ⟨hA, hB⟩ := hW; go_simp; first | done | with_reducible rfl)
          try simp only [List.getElem_toArray, List.getElem_cons_succ, List.getElem_cons_zero, Act.put, List.setIfInBounds_toArray, List.set_cons_zero, List.set_cons_succ]
          refine anyP_take (i := 11) (v := ?vq11) rfl (by kernel_rfl) (by kernel_rfl) (by kernel_rfl) (by kernel_rfl) (by kernel_rfl) (fun _ _ _ h => h) (Or.inl ⟨by rfl, ?yq11⟩) hHeld ?rq11
          case yq11 => (intro W hW; obtain ⟨hA, hB⟩ := hW; go_simp; first | done | with_reducible rfl)
          try simp only [List.getElem_toArray, List.getElem_cons_succ, List.getElem_cons_zero, Act.put, List.setIfInBounds_toArray, List.set_cons_zero, List.set_cons_succ]
          refine anyP_pure (i := 12) (v := ?vq12) rfl (by kernel_rfl) (by kernel_rfl) (by kernel_rfl) (by kernel_rfl) (fun _ _ _ h => h) (Or.inl ⟨by rfl, ?yq12⟩) ?rq12
          case yq12 => (intro W hW; go_simp; first | done | with_reducible rfl)
          try simp only [List.getElem_toArray, List.getElem_cons_succ, List.getElem_cons_zero, Act.put, List.setIfInBounds_toArray, List.set_cons_zero, List.set_cons_succ]
          refine anyP_ready (rs := [13]) (by kernel_rfl) (by simp) ?_
          refine AllP.cons rfl (fun K hK => ?_) (AllP.nil)
          go_simp
          refine hK.out _ _ (fun h => absurd (by decide) h) ?_
          clear hK K
          try simp only [List.getElem_toArray, List.getElem_cons_succ, List.getElem_cons_zero, Act.put, List.setIfInBounds_toArray, List.set_cons_zero, List.set_cons_succ]
          refine anyP_pure (i := 14) (v := ?vq14) rfl (by kernel_rfl) (by kernel_rfl) (by kernel_rfl) (by kernel_rfl) (fun _ _ _ h => h) (Or.inl ⟨by rfl, ?yq14⟩) ?rq14
          case yq14 => (intro W hW; go_simp; first | done | with_reducible rfl)
          try simp only [List.getElem_toArray, List.getElem_cons_succ, List.getElem_cons_zero, Act.put, List.setIfInBounds_toArray, List.set_cons_zero, List.set_cons_succ]
          refine anyP_ready (rs := [15]) (by kernel_rfl) (by simp) ?_
          refine AllP.cons rfl (fun K hK => ?_) (AllP.nil)
          go_simp
          refine hK.out _ _ (fun h => absurd (by decide) h) ?_
          clear hK K
          try simp only [List.getElem_toArray, List.getElem_cons_succ, List.getElem_cons_zero, Act.put, List.setIfInBounds_toArray, List.set_cons_zero, List.set_cons_succ]
          refine anyP_done (by kernel_rfl) ?_ _
          go_wp2
          go_roundw
          case rel => exact ⟨t + 1, swp T pa pb xa xb, by go_num, by omega, by omega, HT2.out, HO2.out.below (Below.refl _ _).drew.drew, ((HB.out.setCell (p := ⟨g, pa, none⟩) hg _).setCell (p := ⟨g, pb, none⟩) hg _).drew.drew⟩
          case measure => simp [intOf]; omega
        · have hgrd : (decide (t < len1) = false) ∨ (decide (t < len1) = true ∧ decide ((t : Int) < 20) = false) := by
            by_cases h : t < len1
            · exact .inr ⟨by simpa using h, decide_eq_false (by omega)⟩
            · exact .inl (by simpa using h)
          obtain ⟨f1, f2, f3⟩ := sq_fst (zs := zs) hk1 hk8 HT.out
          have F1 := Lib.hid f1
          have F2 := Lib.hid f2
          have F3 := Lib.hid f3
          obtain ⟨hTl, hTn, hTb⟩ := perm_spec HT.out
          have HTL := Lib.hid hTl
          have hmk := make_rows9 i (by omega) wq
          have hom0 := om_made wq i (by omega)
          rw [← matS_zero zs T i] at hom0
          have hbm : Below wq.heap.size wq (wq.alloc (.cells (madeCells #[.slice none 0 0] i) 22)) := (Below.refl _ wq).alloc (Nat.le_refl _) _
          obtain ⟨go, hgo⟩ : ∃ go, go = wq.heap.size := ⟨_, rfl⟩
          obtain ⟨w5, hw5⟩ : ∃ w5, w5 = wq.alloc (.cells (madeCells #[.slice none 0 0] i) 22) := ⟨_, rfl⟩
          rw [← hw5] at hmk hom0 hbm
          rw [← hgo] at hmk hom0
          have hgow : go ≤ go := Nat.le_refl _
          have HGO := Lib.hid hgo
          have HOM := Lib.hid hom0
          have HBM := Lib.hid hbm
          obtain ⟨PT, cT, rfl, -⟩ := HO.out.form
          have hml : (T.map fun (k : Nat) => (k : Int)).length = i := by rw [List.length_map, hTl]
          rw [hml] at HO ⊢
          clear f1 f2 f3 hTl hTn hTb hgo hw5 hom0 hbm hml
          rcases hgrd with g1 | ⟨g1, g2⟩
          · go_wp2
            go_loopw [14] (fun p wr => ∃ (n : Nat) (us : List Value), p = .int .i64 n ∧ n ≤ i ∧ OM wq.heap.size wr (.slice (some ⟨go, 0, none⟩) i i) (matS zs T i n 0) us ∧ Below wq.heap.size wq wr) (fun p _ => i - (intOf p).toNat)
            case atStart => exact ⟨0, _, rfl, Nat.zero_le _, by rw [← HGO.out]; exact HOM.out, HBM.out⟩
            case round =>
              obtain ⟨n, us, rfl, hn, hom, hbr⟩ := hrel
              rename World => wr
              have HR := Lib.hid hom
              have HBR := Lib.hid hbr
              clear hom hbr
              by_cases hni : n < i
              · have hnz : (n : Int) < (i : Int) := by omega
                obtain ⟨pk, hpk⟩ : ∃ pk : Nat, pk = n * i := ⟨_, rfl⟩
                have hp1 : pk ≤ 64 := by rw [hpk]; exact Nat.le_trans (Nat.mul_le_mul (show n ≤ 8 by omega) hk8) (by omega)
                have hp2 : (n : Int) * (i : Int) = (pk : Int) := by rw [hpk]; push_cast; rfl
                have HPK := Lib.hid hpk
                clear hpk
                go_wp2
                go_loopw [15] (fun p wr => ∃ (m : Nat) (us : List Value), p = .int .i64 m ∧ m ≤ i ∧ OM wq.heap.size wr (.slice (some ⟨go, 0, none⟩) i i) (matS zs T i n m) us ∧ Below wq.heap.size wq wr) (fun p _ => i - (intOf p).toNat)
                case atStart => exact ⟨0, us, rfl, Nat.zero_le _, HR.out, HBR.out⟩
                case round =>
                  obtain ⟨m, us, rfl, hm, hom, hbr⟩ := hrel
                  clear HR HBR
                  rename World => wr
                  have HR := Lib.hid hom
                  have HBR := Lib.hid hbr
                  clear hom hbr
                  by_cases hmi : m < i
                  · have hmz : (m : Int) < (i : Int) := by omega
                    have n0 : (0 : Int) ≤ (n : Int) := by omega
                    have hr := matS_at zs T (k := i) (n := n) (m := m) hni
                    have rl : (rowS zs T i n m).length = m := by simp [rowS]
                    obtain ⟨go', co', u, e2, hgo', hgol, hu, hcu, hfu, hoi, -⟩ := HR.out.at_ hr
                    rw [matS_len] at e2
                    injection e2 with e3 e5 e4
                    injection e3 with e3
                    injection e3 with e3
                    subst e3
                    clear e4 e5
                    obtain ⟨Pu, cu, rfl, -⟩ := hoi.form
                    rw [rl] at hcu hu
                    have hsz : wq.heap.size ≤ go := hgo'
                    obtain ⟨tn, htn⟩ : ∃ tn, T[n]? = some tn := ⟨_, List.getElem?_eq_getElem (by rw [HTL.out]; exact hni)⟩
                    obtain ⟨gT, cT', eT, hgT, -, hcT, -⟩ := (HO.out.below HBR.out).cell (i := n) (x := (tn : Int)) (by rw [List.getElem?_map, htn]; rfl)
                    injection eT with eT1 eT2 eT3
                    subst eT1
                    clear eT2 eT3
                    have hes := entS_in zs T i n m
                    obtain ⟨g', c', wp, hrun, hom', hbp, hcp, hfp⟩ := om_push (x := entS zs T i n m) HR.out hu hr (by rw [matS_len]) (by constructor <;> omega) (by rw [rl]; omega) HBR.out.size hsz
                    rw [rl] at hrun hom' hbp
                    rw [matS_set] at hom'
                    have HO' := Lib.hid hom'
                    have HB' := Lib.hid (HBR.out.trans hbp)
                    clear hom' hbp hu hr hoi
                    by_cases hin : pk + m < len2
                    · have hinz : decide ((pk : Int) + (m : Int) < (len2 : Int)) = true := decide_eq_true (by omega)
                      have q0 : (0 : Int) ≤ (pk : Int) + (m : Int) := by omega
                      have q1 : (pk : Int) + (m : Int) < (len2 : Int) := by omega
                      have q2 : ((pk : Int) + (m : Int)).toNat = pk + m := by omega
                      obtain ⟨ad, x, rfl, hx, hxi, hcx⟩ := (HN2.out.keep (Keeps.of_below (HB.out.trans (HBR.out.mono HB.out.size)))).at_ hin
                      have HWX := Lib.hid (fun W => mwithin x 99 W hxi (by omega) (by omega))
                      obtain ⟨x9, hx9⟩ : ∃ x9, x9 = x % 99 := ⟨_, rfl⟩
                      rw [← hx9] at HWX
                      have x90 : 0 ≤ x9 := by omega
                      have x91 : x9 ≤ 98 := by omega
                      by_cases htm : tn = m
                      · have e1 : ((tn : Int) == (m : Int)) = true := by simp [htm]
                        have hent : entS zs T i n m = 0 := by unfold entS; rw [if_pos (by rw [htn, htm])]
                        rw [hent] at hrun
                        have Hrun := Lib.hid hrun
                        clear hent htn htm hx hxi hx9 hrun
                        go_wp2_with fail
                        refine (HWX.out wr).mono ?_
                        rintro e w'' ⟨rfl, rfl⟩
                        go_wp2_with (at_builtin; have _t := Hrun; refine wpList_append_eq rfl (.tmp 108) (.tmp 110) 22 rfl _ _ _ _ rfl rfl Hrun.out ?_; clear _t Hrun)
                        go_roundw
                        case rel => exact ⟨m + 1, _, by go_num, by omega, HO'.out, HB'.out⟩
                        case measure => simp [intOf]; omega
                      · have e1 : ((tn : Int) == (m : Int)) = false := by simp; omega
                        have hent : entS zs T i n m = 1 + x9 := by unfold entS; rw [if_neg (by rw [htn]; simpa using htm), ← HPK.out, hx, hx9]
                        rw [hent] at hrun
                        have Hrun := Lib.hid hrun
                        clear hent htn htm hx hxi hx9 hrun
                        go_wp2_with fail
                        refine (HWX.out wr).mono ?_
                        rintro e w'' ⟨rfl, rfl⟩
                        go_wp2_with (at_builtin; have _t := Hrun; refine wpList_append_eq rfl (.tmp 108) (.tmp 110) 22 rfl _ _ _ _ rfl rfl Hrun.out ?_; clear _t Hrun)
                        go_roundw
                        case rel => exact ⟨m + 1, _, by go_num, by omega, HO'.out, HB'.out⟩
                        case measure => simp [intOf]; omega
                    · have hinz : decide ((pk : Int) + (m : Int) < (len2 : Int)) = false := decide_eq_false (by omega)
                      have hx : zs[pk + m]? = none := List.getElem?_eq_none (by rw [HZL.out]; omega)
                      by_cases htm : tn = m
                      · have e1 : ((tn : Int) == (m : Int)) = true := by simp [htm]
                        have hent : entS zs T i n m = 0 := by unfold entS; rw [if_pos (by rw [htn, htm])]
                        rw [hent] at hrun
                        have Hrun := Lib.hid hrun
                        clear hent htn htm hx hrun
                        go_wp2_with (at_builtin; have _t := Hrun; refine wpList_append_eq rfl (.tmp 108) (.tmp 110) 22 rfl _ _ _ _ rfl rfl Hrun.out ?_; clear _t Hrun)
                        go_roundw
                        case rel => exact ⟨m + 1, _, by go_num, by omega, HO'.out, HB'.out⟩
                        case measure => simp [intOf]; omega
                      · have e1 : ((tn : Int) == (m : Int)) = false := by simp; omega
                        have hent : entS zs T i n m = 1 := by unfold entS; rw [if_neg (by rw [htn]; simpa using htm), ← HPK.out, hx]
                        rw [hent] at hrun
                        have Hrun := Lib.hid hrun
                        clear hent htn htm hx hrun
                        go_wp2_with (at_builtin; have _t := Hrun; refine wpList_append_eq rfl (.tmp 108) (.tmp 110) 22 rfl _ _ _ _ rfl rfl Hrun.out ?_; clear _t Hrun)
                        go_roundw
                        case rel => exact ⟨m + 1, _, by go_num, by omega, HO'.out, HB'.out⟩
                        case measure => simp [intOf]; omega
                  · obtain rfl : m = i := by omega
                    have hmm : decide ((m : Int) < (m : Int)) = false := by simp
                    go_wp2
                    go_roundw
                    case rel => exact ⟨n + 1, us, by go_num, by omega, by rw [← matS_next]; exact HR.out, HBR.out⟩
                    case measure => simp [intOf]; omega
              · obtain rfl : n = i := by omega
                have hnn : decide ((n : Int) < (n : Int)) = false := by simp
                obtain ⟨A, c, e9, hmat⟩ := HR.out.mat
                rw [matS_len] at hmat
                injection e9 with e9 e14 e10
                subst e9 e10
                clear e14
                have hrl : ∀ r ∈ matS zs T n n 0, r.length ≤ 1000000 := fun r hr => by
                  obtain ⟨q, hq⟩ := List.mem_iff_getElem?.1 hr
                  obtain ⟨_, rfl⟩ := matS_row hq
                  simp [rowS]; omega
                have hA := assign_any _ n n _ wr hmat (by omega) hrl
                rw [F1.out, F2.out, F3.out] at hA
                have HA := Lib.hid hA
                clear hmat hrl hA
                go_wp2_with fail
                refine HA.out.mono ?_
                rintro e w7 ⟨v1, rfl, ho1, hb7⟩
                have HB7 := Lib.hid (HB.out.trans ((HBR.out.trans (hb7.mono HBR.out.size)).mono HB.out.size))
                obtain ⟨P1, c1, rfl, -, -, hn1, -⟩ := ho1.form
                obtain ⟨P2, c2, e11, -, -, hn2, -⟩ := (HO.out.below (HBR.out.trans (hb7.mono HBR.out.size))).form
                have hml : (T.map fun (k : Nat) => (k : Int)).length = n := by rw [List.length_map, HTL.out]
                rw [hml] at hn1 hn2 e11 ⊢
                injection e11 with e11 e12 e13
                subst e11
                clear e12 e13
                have HX1 := Lib.hid hn1
                have HX2 := Lib.hid hn2
                clear hb7 ho1 hn1 hn2 hml
                go_wp2_with fail
                refine (rInts P1 PT _ _ c1 cT _ _ w7 HX1.out HX2.out (by omega)).mono ?_
                rintro e w8 ⟨rfl, q, rfl⟩
                rw [decide_eq_true rfl]
                go_wp2
                go_ret
                exact ⟨rfl, below_drewN HB7.out q⟩
          · go_wp2
            go_loopw [14] (fun p wr => ∃ (n : Nat) (us : List Value), p = .int .i64 n ∧ n ≤ i ∧ OM wq.heap.size wr (.slice (some ⟨go, 0, none⟩) i i) (matS zs T i n 0) us ∧ Below wq.heap.size wq wr) (fun p _ => i - (intOf p).toNat)
            case atStart => exact ⟨0, _, rfl, Nat.zero_le _, by rw [← HGO.out]; exact HOM.out, HBM.out⟩
            case round =>
              obtain ⟨n, us, rfl, hn, hom, hbr⟩ := hrel
              rename World => wr
              have HR := Lib.hid hom
              have HBR := Lib.hid hbr
              clear hom hbr
              by_cases hni : n < i
              · have hnz : (n : Int) < (i : Int) := by omega
                obtain ⟨pk, hpk⟩ : ∃ pk : Nat, pk = n * i := ⟨_, rfl⟩
                have hp1 : pk ≤ 64 := by rw [hpk]; exact Nat.le_trans (Nat.mul_le_mul (show n ≤ 8 by omega) hk8) (by omega)
                have hp2 : (n : Int) * (i : Int) = (pk : Int) := by rw [hpk]; push_cast; rfl
                have HPK := Lib.hid hpk
                clear hpk
                go_wp2
                go_loopw [15] (fun p wr => ∃ (m : Nat) (us : List Value), p = .int .i64 m ∧ m ≤ i ∧ OM wq.heap.size wr (.slice (some ⟨go, 0, none⟩) i i) (matS zs T i n m) us ∧ Below wq.heap.size wq wr) (fun p _ => i - (intOf p).toNat)
                case atStart => exact ⟨0, us, rfl, Nat.zero_le _, HR.out, HBR.out⟩
                case round =>
                  obtain ⟨m, us, rfl, hm, hom, hbr⟩ := hrel
                  clear HR HBR
                  rename World => wr
                  have HR := Lib.hid hom
                  have HBR := Lib.hid hbr
                  clear hom hbr
                  by_cases hmi : m < i
                  · have hmz : (m : Int) < (i : Int) := by omega
                    have n0 : (0 : Int) ≤ (n : Int) := by omega
                    have hr := matS_at zs T (k := i) (n := n) (m := m) hni
                    have rl : (rowS zs T i n m).length = m := by simp [rowS]
                    obtain ⟨go', co', u, e2, hgo', hgol, hu, hcu, hfu, hoi, -⟩ := HR.out.at_ hr
                    rw [matS_len] at e2
                    injection e2 with e3 e5 e4
                    injection e3 with e3
                    injection e3 with e3
                    subst e3
                    clear e4 e5
                    obtain ⟨Pu, cu, rfl, -⟩ := hoi.form
                    rw [rl] at hcu hu
                    have hsz : wq.heap.size ≤ go := hgo'
                    obtain ⟨tn, htn⟩ : ∃ tn, T[n]? = some tn := ⟨_, List.getElem?_eq_getElem (by rw [HTL.out]; exact hni)⟩
                    obtain ⟨gT, cT', eT, hgT, -, hcT, -⟩ := (HO.out.below HBR.out).cell (i := n) (x := (tn : Int)) (by rw [List.getElem?_map, htn]; rfl)
                    injection eT with eT1 eT2 eT3
                    subst eT1
                    clear eT2 eT3
                    have hes := entS_in zs T i n m
                    obtain ⟨g', c', wp, hrun, hom', hbp, hcp, hfp⟩ := om_push (x := entS zs T i n m) HR.out hu hr (by rw [matS_len]) (by constructor <;> omega) (by rw [rl]; omega) HBR.out.size hsz
                    rw [rl] at hrun hom' hbp
                    rw [matS_set] at hom'
                    have HO' := Lib.hid hom'
                    have HB' := Lib.hid (HBR.out.trans hbp)
                    clear hom' hbp hu hr hoi
                    by_cases hin : pk + m < len2
                    · have hinz : decide ((pk : Int) + (m : Int) < (len2 : Int)) = true := decide_eq_true (by omega)
                      have q0 : (0 : Int) ≤ (pk : Int) + (m : Int) := by omega
                      have q1 : (pk : Int) + (m : Int) < (len2 : Int) := by omega
                      have q2 : ((pk : Int) + (m : Int)).toNat = pk + m := by omega
                      obtain ⟨ad, x, rfl, hx, hxi, hcx⟩ := (HN2.out.keep (Keeps.of_below (HB.out.trans (HBR.out.mono HB.out.size)))).at_ hin
                      have HWX := Lib.hid (fun W => mwithin x 99 W hxi (by omega) (by omega))
                      obtain ⟨x9, hx9⟩ : ∃ x9, x9 = x % 99 := ⟨_, rfl⟩
                      rw [← hx9] at HWX
                      have x90 : 0 ≤ x9 := by omega
                      have x91 : x9 ≤ 98 := by omega
                      by_cases htm : tn = m
                      · have e1 : ((tn : Int) == (m : Int)) = true := by simp [htm]
                        have hent : entS zs T i n m = 0 := by unfold entS; rw [if_pos (by rw [htn, htm])]
                        rw [hent] at hrun
                        have Hrun := Lib.hid hrun
                        clear hent htn htm hx hxi hx9 hrun
                        go_wp2_with fail
                        refine (HWX.out wr).mono ?_
                        rintro e w'' ⟨rfl, rfl⟩
                        go_wp2_with (at_builtin; have _t := Hrun; refine wpList_append_eq rfl (.tmp 108) (.tmp 110) 22 rfl _ _ _ _ rfl rfl Hrun.out ?_; clear _t Hrun)
                        go_roundw
                        case rel => exact ⟨m + 1, _, by go_num, by omega, HO'.out, HB'.out⟩
                        case measure => simp [intOf]; omega
                      · have e1 : ((tn : Int) == (m : Int)) = false := by simp; omega
                        have hent : entS zs T i n m = 1 + x9 := by unfold entS; rw [if_neg (by rw [htn]; simpa using htm), ← HPK.out, hx, hx9]
                        rw [hent] at hrun
                        have Hrun := Lib.hid hrun
                        clear hent htn htm hx hxi hx9 hrun
                        go_wp2_with fail
                        refine (HWX.out wr).mono ?_
                        rintro e w'' ⟨rfl, rfl⟩
                        go_wp2_with (at_builtin; have _t := Hrun; refine wpList_append_eq rfl (.tmp 108) (.tmp 110) 22 rfl _ _ _ _ rfl rfl Hrun.out ?_; clear _t Hrun)
                        go_roundw
                        case rel => exact ⟨m + 1, _, by go_num, by omega, HO'.out, HB'.out⟩
                        case measure => simp [intOf]; omega
                    · have hinz : decide ((pk : Int) + (m : Int) < (len2 : Int)) = false := decide_eq_false (by omega)
                      have hx : zs[pk + m]? = none := List.getElem?_eq_none (by rw [HZL.out]; omega)
                      by_cases htm : tn = m
                      · have e1 : ((tn : Int) == (m : Int)) = true := by simp [htm]
                        have hent : entS zs T i n m = 0 := by unfold entS; rw [if_pos (by rw [htn, htm])]
                        rw [hent] at hrun
                        have Hrun := Lib.hid hrun
                        clear hent htn htm hx hrun
                        go_wp2_with (at_builtin; have _t := Hrun; refine wpList_append_eq rfl (.tmp 108) (.tmp 110) 22 rfl _ _ _ _ rfl rfl Hrun.out ?_; clear _t Hrun)
                        go_roundw
                        case rel => exact ⟨m + 1, _, by go_num, by omega, HO'.out, HB'.out⟩
                        case measure => simp [intOf]; omega
                      · have e1 : ((tn : Int) == (m : Int)) = false := by simp; omega
                        have hent : entS zs T i n m = 1 := by unfold entS; rw [if_neg (by rw [htn]; simpa using htm), ← HPK.out, hx]
                        rw [hent] at hrun
                        have Hrun := Lib.hid hrun
                        clear hent htn htm hx hrun
                        go_wp2_with (at_builtin; have _t := Hrun; refine wpList_append_eq rfl (.tmp 108) (.tmp 110) 22 rfl _ _ _ _ rfl rfl Hrun.out ?_; clear _t Hrun)
                        go_roundw
                        case rel => exact ⟨m + 1, _, by go_num, by omega, HO'.out, HB'.out⟩
                        case measure => simp [intOf]; omega
                  · obtain rfl : m = i := by omega
                    have hmm : decide ((m : Int) < (m : Int)) = false := by simp
                    go_wp2
                    go_roundw
                    case rel => exact ⟨n + 1, us, by go_num, by omega, by rw [← matS_next]; exact HR.out, HBR.out⟩
                    case measure => simp [intOf]; omega
              · obtain rfl : n = i := by omega
                have hnn : decide ((n : Int) < (n : Int)) = false := by simp
                obtain ⟨A, c, e9, hmat⟩ := HR.out.mat
                rw [matS_len] at hmat
                injection e9 with e9 e14 e10
                subst e9 e10
                clear e14
                have hrl : ∀ r ∈ matS zs T n n 0, r.length ≤ 1000000 := fun r hr => by
                  obtain ⟨q, hq⟩ := List.mem_iff_getElem?.1 hr
                  obtain ⟨_, rfl⟩ := matS_row hq
                  simp [rowS]; omega
                have hA := assign_any _ n n _ wr hmat (by omega) hrl
                rw [F1.out, F2.out, F3.out] at hA
                have HA := Lib.hid hA
                clear hmat hrl hA
                go_wp2_with fail
                refine HA.out.mono ?_
                rintro e w7 ⟨v1, rfl, ho1, hb7⟩
                have HB7 := Lib.hid (HB.out.trans ((HBR.out.trans (hb7.mono HBR.out.size)).mono HB.out.size))
                obtain ⟨P1, c1, rfl, -, -, hn1, -⟩ := ho1.form
                obtain ⟨P2, c2, e11, -, -, hn2, -⟩ := (HO.out.below (HBR.out.trans (hb7.mono HBR.out.size))).form
                have hml : (T.map fun (k : Nat) => (k : Int)).length = n := by rw [List.length_map, HTL.out]
                rw [hml] at hn1 hn2 e11 ⊢
                injection e11 with e11 e12 e13
                subst e11
                clear e12 e13
                have HX1 := Lib.hid hn1
                have HX2 := Lib.hid hn2
                clear hb7 ho1 hn1 hn2 hml
                go_wp2_with fail
                refine (rInts P1 PT _ _ c1 cT _ _ w7 HX1.out HX2.out (by omega)).mono ?_
                rintro e w8 ⟨rfl, q, rfl⟩
                rw [decide_eq_true rfl]
                go_wp2
                go_ret
                exact ⟨rfl, below_drewN HB7.out q⟩
end Go.Proofs.Ytimffjonhoplpaa
