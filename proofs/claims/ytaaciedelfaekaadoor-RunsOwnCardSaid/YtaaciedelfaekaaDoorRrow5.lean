/- The reference's Runs over a row that reads as facts' cells do. -/
import Derived.Test.YtaaciedelfaekaaDoorRef5b
import Derived.Test.YtaaciedelfaekaaDoorKnow5
import Derived.Test.YtaaciedelfaekaaDoorOk5
namespace Go.Proofs.YtaaciedelfaekaaDoor
open Go.RowKit Go.Shelf
theorem rruns_row (P : Option Addr) (c N m d me : Nat) (L : List Cel) (w : World) (hr : RowC w P N L) (hN : N = L.length) (hN1 : N ≤ 60) (hg : OkL d me L) (hd : d ≤ 1000) (hme : me ≤ 2) :
    Calls Tryd.prog 19 #[.slice P N c, .int .i64 m] w fun e w' => ∃ P' c', e = .returned (.slice P' (runsP m [] L).length c') ∧ RunsC w' P' (runsP m [] L).length (runsP m [] L) ∧ Below w.heap.size w w' :=
  (rRuns_any P c N m me L w hr hN (by omega) (fun x hx => ⟨(hg x hx).2.2, by have := (hg x hx).1; omega⟩) (by omega)).mono fun e w' h => by
    obtain ⟨v, gs, rfl, hG, hb⟩ := h
    obtain ⟨P', c', rfl, -, -, hR, -⟩ := hG.form
    exact ⟨P', c', rfl, hR, hb⟩
/-- Runs are few, and so are their cells. -/
theorem runs_small {d me m : Nat} (hm : 1 ≤ m) {L : List Cel} (hg : OkL d me L) (hd : d ≤ 1000) (hme : me ≤ 2) (hl : L.length ≤ 60) : (runsP m [] L).length ≤ 60 ∧ ∀ J ∈ runsP m [] L, FewC J ∧ J.length ≤ 1000000 := by
  have h2 := runs_len (m := m) L []
  rw [List.length_nil, Nat.zero_add] at h2
  have hok := runs_ok (m := m) L [] hg (fun y hy => absurd hy List.not_mem_nil)
  refine ⟨?_, fun J hJ => ⟨?_, ?_⟩⟩
  · have h1 := flat_ge (runsP m [] L) (fun J hJ => (runs_each hm L [] (by simp [RiseC]) (by simp) J hJ).2.1)
    omega
  · exact OkL.few (d := d) (mm := me) (fun x hx => hok x (List.mem_flatten.2 ⟨J, hJ, hx⟩)) hd (by omega)
  · have := List.Sublist.length_le (List.sublist_flatten_of_mem hJ)
    omega
end Go.Proofs.YtaaciedelfaekaaDoor
