/- What a law is told of the schema and the rows that its Facts makes. -/
import Derived.Test.YtejjbbomkedpcaaFacts
namespace Go.Proofs.Ytejjbbomkedpcaa
open Go.RowKit
structure FR (dims : Int) (cards : List Int) (me : Int) (ns : List Int) (w w' : World) (A : Option Addr) (c : Nat) (D : Option Addr) (d C q mm m : Nat) (cs : List Int) (l : List Fact) : Prop where
  ecs : cs = fCards dims cards
  emm : mm = fMeas me
  el : l = fRows cs mm ns
  eq : cs.length = q
  em : l.length = m
  q1 : 1 ≤ q
  q4 : q ≤ 4
  m2 : mm ≤ 2
  m40 : m ≤ 40
  nums : Nums .i64 w' A q cs
  facts : Facts w' D m l
  own : w'.ownsRow w.heap.size 3 1 (.slice A q c) q (ints cs)
  cC : ∀ g ∈ blk (.slice A q c), g < C
  wC : w.heap.size ≤ C
  rows : RowsX w' C (.slice D m d) l
  below : Below w.heap.size w w'
  right : allRightB cs (mm : Int) l = true
  small : ∀ r ∈ l, (∀ x ∈ r.key, inK .i64 x) ∧ ∀ x ∈ r.m, inK .i64 x
  lens : ∀ r ∈ l, r.key.length = q ∧ r.m.length = mm
  c16 : ∀ x ∈ cs, 1 ≤ x ∧ x ≤ 16
theorem FR.sm {dims : Int} {cards : List Int} {me : Int} {ns : List Int} {w w' : World} {A : Option Addr} {c : Nat} {D : Option Addr} {d C q mm m : Nat} {cs : List Int} {l : List Fact} (h : FR dims cards me ns w w' A c D d C q mm m cs l) : Small l := fun r hr => (h.small r hr).2
theorem fRows_flat (cs : List Int) (me : Nat) (ns : List Int) : ((fRows cs me ns).flatMap rowB).length = (fRows cs me ns).length * (cs.length + 8 * me) :=
  rows_len (W := cs.length + 8 * me) fun r hr => by
    simp only [fRows, List.mem_map] at hr
    obtain ⟨k, _, rfl⟩ := hr
    rw [(fRow_lens me k).1, (fRow_lens me k).2]
theorem FR.enc_len {dims : Int} {cards : List Int} {me : Int} {ns : List Int} {w w' : World} {A : Option Addr} {c : Nat} {D : Option Addr} {d C q mm m : Nat} {cs : List Int} {l : List Fact} (h : FR dims cards me ns w w' A c D d C q mm m cs l) : (encB cs (mm : Int) l).length = 8 + q + m * (q + 8 * mm) := by
  rw [encB, List.length_append, headB_len, ← h.em, h.el, fRows_flat, h.eq]
theorem Facts_res (dims me : Int) (A D : Option Addr) (n c m d : Nat) (cards ns : List Int) (w : World) (hA : Nums .i64 w A n cards) (hD : Nums .i64 w D m ns) (hn : n ≤ 9223372036854775807) (hm : m ≤ 9223372036854775807) (hd : inK .i64 dims) (hme : inK .i64 me) :
    Calls Try.prog 6 #[.int .i64 dims, .slice A n c, .int .i64 me, .slice D m d] w fun e w' =>
      ∃ (A : Option Addr) (c : Nat) (D : Option Addr) (d C q mm m : Nat) (cs : List Int) (l : List Fact), e = .returned (.tuple #[.agg #[.slice A q c, .int .i64 mm], .slice D m d]) ∧ FR dims cards me ns w w' A c D d C q mm m cs l := by
  refine (Facts_any dims me A D n c m d cards ns w hA hD hn hm hd hme).mono ?_
  rintro e w2 ⟨cv, rv, C, rfl, oc, hcC, hC, hR, hb2⟩
  obtain ⟨A, c, hcv, -, -, hn⟩ := own_nums (by rw [fCards_len]; exact oc) (fCards_i64 dims cards)
  obtain ⟨D, d, hrv, -, -, hF⟩ := hR.rows.facts (fRows_small me ns)
  rw [fCards_len] at hcv hn
  subst hcv
  subst hrv
  exact ⟨A, c, D, d, C, fDims dims, fMeas me, _, fCards dims cards, _, rfl, rfl, rfl, rfl, fCards_len _ _, rfl, (fDims_bd _).1, (fDims_bd _).2, fMeas_bd _, fRows_len _ _ _, hn, hF, oc, hcC, hC, hR, hb2, fRows_right _ _, fRows_small _ _, (fun r hr => by
    simp only [fRows, List.mem_map] at hr
    obtain ⟨k, _, rfl⟩ := hr
    rw [← fCards_len dims cards]
    exact fRow_lens _ _), fun x hx => fCards_bd x hx⟩
end Go.Proofs.Ytejjbbomkedpcaa
