/- What the law's Facts makes of numbers, said plainly: a schema that may be, rows of it. No Go text. -/
import Derived.Test.YtejjbbomkedpcaaPure
namespace Go.Proofs.Ytejjbbomkedpcaa
open Go.RowKit
def fCard (cards : List Int) (i : Nat) : Int := 1 + (cards[i]?.getD ((i : Int) + 2)) % 5
def fBase (cards : List Int) (k : Nat) : List Int := (List.range k).map (fCard cards)
def fDims (dims : Int) : Nat := (dims % 4).toNat + 1
def fCards (dims : Int) (cards : List Int) : List Int := if dims % 7 = 0 then (fBase cards (fDims dims)).set 0 16 else fBase cards (fDims dims)
def fMeas (measures : Int) : Nat := (measures % 3).toNat
def fRest (cs : List Int) (k : Int) : Int := cs.foldl (fun k _ => k.tdiv 5) k
def fKey : List Int → Int → List Int
  | [], _ => []
  | c :: cs, k => k % c :: fKey cs (k.tdiv 5)
def fM (me : Nat) (k : Int) : List Int := (List.range me).map fun (m : Nat) => (k + 7 * (m : Int)) % 201 - 100
def fRow (cs : List Int) (me : Nat) (k : Int) : Fact := ⟨fKey cs k, fM me (fRest cs k)⟩
def fRows (cs : List Int) (me : Nat) (ns : List Int) : List Fact := (ns.take 40).map (fRow cs me)
theorem fBase_snoc (cards : List Int) (k : Nat) : fBase cards (k + 1) = fBase cards k ++ [fCard cards k] := by simp [fBase, List.range_succ]
theorem fBase_len (cards : List Int) (k : Nat) : (fBase cards k).length = k := by simp [fBase]
theorem fCard_bd (cards : List Int) (i : Nat) : 1 ≤ fCard cards i ∧ fCard cards i ≤ 5 := by unfold fCard; omega
theorem fBase_bd {cards : List Int} {k : Nat} : ∀ x ∈ fBase cards k, 1 ≤ x ∧ x ≤ 5 := by
  intro x hx
  simp only [fBase, List.mem_map] at hx
  obtain ⟨i, _, rfl⟩ := hx
  exact fCard_bd cards i
theorem fDims_bd (dims : Int) : 1 ≤ fDims dims ∧ fDims dims ≤ 4 := by unfold fDims; omega
theorem fMeas_bd (m : Int) : fMeas m ≤ 2 := by unfold fMeas; omega
theorem fCards_len (dims : Int) (cards : List Int) : (fCards dims cards).length = fDims dims := by
  unfold fCards
  split <;> simp [fBase_len]
theorem fCards_bd {dims : Int} {cards : List Int} : ∀ x ∈ fCards dims cards, 1 ≤ x ∧ x ≤ 16 := by
  intro x hx
  unfold fCards at hx
  split at hx
  · rcases List.mem_or_eq_of_mem_set hx with h | h
    · have := fBase_bd x h; omega
    · omega
  · have := fBase_bd x hx; omega
theorem fCards_check (dims : Int) (cards : List Int) (measures : Int) : checkB (fCards dims cards) (fMeas measures : Int) = true := by
  have h1 := fDims_bd dims
  have h2 := fMeas_bd measures
  exact checkB_yes (by rw [fCards_len]; omega) (by rw [fCards_len]; omega) (by omega) (by omega) (fun x hx => fCards_bd x hx)
theorem fKey_len : ∀ (cs : List Int) (k : Int), (fKey cs k).length = cs.length
  | [], _ => rfl
  | _ :: cs, k => by simp [fKey, fKey_len cs]
theorem fKey_snoc : ∀ (cs : List Int) (c k : Int), fKey (cs ++ [c]) k = fKey cs k ++ [fRest cs k % c]
  | [], c, k => rfl
  | d :: cs, c, k => by simp [fKey, fKey_snoc cs, fRest]
theorem fRest_snoc (cs : List Int) (c k : Int) : fRest (cs ++ [c]) k = (fRest cs k).tdiv 5 := by simp [fRest]
theorem tdiv5_bd {k : Int} (h : -9223372036854775808 ≤ k ∧ k ≤ 9223372036854775807) : -1844674407370955162 ≤ k.tdiv 5 ∧ k.tdiv 5 ≤ 1844674407370955161 := by
  rw [Int.tdiv_eq_ediv, show Int.sign 5 = 1 from rfl]
  split <;> omega
theorem fRest_bd0 : ∀ (cs : List Int) (k : Int), -9223372036854775808 ≤ k ∧ k ≤ 9223372036854775807 → -9223372036854775808 ≤ fRest cs k ∧ fRest cs k ≤ 9223372036854775807
  | [], k, h => h
  | _ :: cs, k, h => by
    have := tdiv5_bd h
    exact fRest_bd0 cs (k.tdiv 5) (by omega)
theorem fRest_bd : ∀ (cs : List Int) (k : Int), 1 ≤ cs.length → -9223372036854775808 ≤ k ∧ k ≤ 9223372036854775807 → -1844674407370955162 ≤ fRest cs k ∧ fRest cs k ≤ 1844674407370955161 := by
  intro cs k h hk
  rcases List.eq_nil_or_concat cs with rfl | ⟨l, c, rfl⟩
  · simp at h
  · rw [List.concat_eq_append, fRest_snoc]
    exact tdiv5_bd (fRest_bd0 l k hk)
theorem fKey_at : ∀ {cs : List Int} {k : Int} {i : Nat} {c v : Int}, (∀ x ∈ cs, 1 ≤ x) → cs[i]? = some c → (fKey cs k)[i]? = some v → 0 ≤ v ∧ v < c
  | [], _, _, _, _, _, h, _ => by simp at h
  | d :: cs, k, 0, c, v, hp, h, hv => by
    simp only [List.getElem?_cons_zero, Option.some.injEq, fKey] at h hv
    subst h hv
    have := hp d (by simp)
    exact ⟨Int.emod_nonneg _ (by omega), Int.emod_lt_of_pos _ (by omega)⟩
  | d :: cs, k, i + 1, c, v, hp, h, hv => by
    simp only [List.getElem?_cons_succ, fKey] at h hv
    exact fKey_at (fun x hx => hp x (by simp [hx])) h hv
theorem fM_len (me : Nat) (k : Int) : (fM me k).length = me := by simp [fM]
theorem fM_snoc (me : Nat) (k : Int) : fM (me + 1) k = fM me k ++ [(k + 7 * (me : Int)) % 201 - 100] := by simp [fM, List.range_succ]
theorem fM_bd (me : Nat) (k : Int) : ∀ x ∈ fM me k, -100 ≤ x ∧ x ≤ 100 := by
  intro x hx
  simp only [fM, List.mem_map] at hx
  obtain ⟨i, _, rfl⟩ := hx
  omega
theorem fRow_right {cs : List Int} (me : Nat) (k : Int) (h : ∀ x ∈ cs, 1 ≤ x) : rightB cs (me : Int) (fRow cs me k) = true :=
  rightB_yes (by simp [fRow, fKey_len]) (by simp [fRow, fM_len]) (fun i c v _ hc hv => fKey_at h hc hv)
theorem fRows_snoc {cs : List Int} {me : Nat} {ns : List Int} {k : Nat} {x : Int} (h : ns[k]? = some x) : ((ns.take (k + 1)).map (fRow cs me)) = (ns.take k).map (fRow cs me) ++ [fRow cs me x] := by
  rw [take_snoc h, List.map_append]; rfl
theorem fRows_len (cs : List Int) (me : Nat) (ns : List Int) : (fRows cs me ns).length ≤ 40 := by simp [fRows]; omega
theorem fRows_right {dims : Int} {cards : List Int} (measures : Int) (ns : List Int) : allRightB (fCards dims cards) (fMeas measures : Int) (fRows (fCards dims cards) (fMeas measures) ns) = true :=
  allRightB_yes (fCards_check dims cards measures) fun r hr => by
    simp only [fRows, List.mem_map] at hr
    obtain ⟨k, _, rfl⟩ := hr
    exact fRow_right _ _ fun x hx => (fCards_bd x hx).1
theorem fRow_small {cs : List Int} (me : Nat) (k : Int) (h : ∀ x ∈ cs, 1 ≤ x ∧ x ≤ 16) : (∀ x ∈ (fRow cs me k).key, 0 ≤ x ∧ x ≤ 15) ∧ ∀ x ∈ (fRow cs me k).m, -100 ≤ x ∧ x ≤ 100 :=
  ⟨keysB_small (rightB_key (fRow_right me k fun x hx => (h x hx).1)) h, fM_bd _ _⟩
theorem fRows_small {dims : Int} {cards : List Int} (measures : Int) (ns : List Int) : ∀ r ∈ fRows (fCards dims cards) (fMeas measures) ns, (∀ x ∈ r.key, inK .i64 x) ∧ ∀ x ∈ r.m, inK .i64 x := by
  intro r hr
  simp only [fRows, List.mem_map] at hr
  obtain ⟨k, _, rfl⟩ := hr
  obtain ⟨h1, h2⟩ := fRow_small (cs := fCards dims cards) (fMeas measures) k (fun x hx => fCards_bd x hx)
  refine ⟨fun x hx => ?_, fun x hx => ?_⟩
  · have := h1 x hx; simp only [inK]; omega
  · have := h2 x hx; simp only [inK]; omega
theorem fRow_lens {cs : List Int} (me : Nat) (k : Int) : (fRow cs me k).key.length = cs.length ∧ (fRow cs me k).m.length = me := ⟨fKey_len _ _, fM_len _ _⟩
theorem fCards_i64 (dims : Int) (cards : List Int) : ∀ x ∈ fCards dims cards, inK .i64 x := fun x hx => by
  have := fCards_bd x hx
  simp only [inK]
  omega
end Go.Proofs.Ytejjbbomkedpcaa
