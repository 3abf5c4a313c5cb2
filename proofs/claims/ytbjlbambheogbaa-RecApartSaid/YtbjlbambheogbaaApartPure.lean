/- Two files of facts have the same bytes just where they are the same. No Go text. -/
import Derived.Test.YtbjlbambheogbaaBack
import Derived.Test.YtbjlbambheogbaaRef1
import Derived.Test.YtbjlbambheogbaaFactsPure
namespace Go.Proofs.Ytbjlbambheogbaa
open Go.RowKit
theorem encB_inj {cs cs' : List Int} {me me' : Int} {l l' : List Fact} (h1 : allRightB cs me l = true) (h2 : allRightB cs' me' l' = true) (n1 : l.length ≤ 300) (n2 : l'.length ≤ 300) (s1 : Small l) (s2 : Small l') (e : encB cs me l = encB cs' me' l') : cs = cs' ∧ me = me' ∧ l = l' := by
  obtain ⟨-, -, c1, c2, -⟩ := enc_head (l := l) (allRightB_spec h1).1 n1
  obtain ⟨-, -, d1, d2, -⟩ := enc_head (l := l') (allRightB_spec h2).1 n2
  have r1 := (enc_back h1 n1 s1).2
  have r2 := (enc_back h2 n2 s2).2
  rw [e] at c1 c2 r1
  exact ⟨c1.symm.trans d1, c2.symm.trans d2, r1.symm.trans r2⟩
theorem apart_same {cs cs' : List Int} {me me' : Int} {l l' : List Fact} (h1 : allRightB cs me l = true) (h2 : allRightB cs' me' l' = true) (n1 : l.length ≤ 300) (n2 : l'.length ≤ 300) (s1 : Small l) (s2 : Small l') :
    ((strOf (encB cs me l)).toList == (strOf (encB cs' me' l')).toList) = sameB cs me l cs' me' l' := by
  rw [strOf_beq (encB_bytes _ _ _) (encB_bytes _ _ _)]
  by_cases e : encB cs me l = encB cs' me' l'
  · obtain ⟨rfl, rfl, rfl⟩ := encB_inj h1 h2 n1 n2 s1 s2 e
    simp [sameB]
  · rw [decide_eq_false e]
    symm
    unfold sameB
    by_cases a : cs = cs'
    · by_cases b : me = me'
      · by_cases c : l = l'
        · subst a b c; exact absurd rfl e
        · simp [c]
      · simp [b]
    · simp [a]
end Go.Proofs.Ytbjlbambheogbaa
