/- Rows in another order: the sums stay. No Go text. -/
import Derived.Test.YtbjlbambheogbaaLaw
namespace Go.Proofs.Ytbjlbambheogbaa
open Go.RowKit
theorem upS_perm {a b : List Int} (h : a.Perm b) : upS a = upS b := by
  induction h with
  | nil => rfl
  | cons x _ ih => simp only [upS, ih]
  | swap x y l => simp only [upS]; omega
  | trans _ _ i j => exact i.trans j
theorem dnS_perm {a b : List Int} (h : a.Perm b) : dnS a = dnS b := by
  induction h with
  | nil => rfl
  | cons x _ ih => simp only [dnS, ih]
  | swap x y l => simp only [dnS]; omega
  | trans _ _ i j => exact i.trans j
theorem fitsB_perm {a b : List Int} (h : a.Perm b) : fitsB a = fitsB b := by rw [fitsB, fitsB, upS_perm h, dnS_perm h]
theorem col_perm {a b : List Fact} (h : a.Perm b) (m : Nat) : (col a m).Perm (col b m) := h.map _
theorem soundB_perm {cs : List Int} {me : Int} {a b : List Fact} (h : a.Perm b) : soundB cs me a = soundB cs me b := by
  unfold soundB soundsB allRightB
  have h1 : a.all (rightB cs me) = b.all (rightB cs me) := by
    rw [Bool.eq_iff_iff, List.all_eq_true, List.all_eq_true]
    exact ⟨fun k x hx => k x (h.mem_iff.2 hx), fun k x hx => k x (h.mem_iff.1 hx)⟩
  have h2 : (fun m => fitsB (col a m)) = fun m => fitsB (col b m) := funext fun m => fitsB_perm (col_perm h m)
  rw [h1, h2]
def swapL {α : Type} (l : List α) (a b : Nat) (x y : α) : List α := (l.set a y).set b x
theorem swapL_perm {α : Type} {l : List α} {a b : Nat} {x y : α} (ha : l[a]? = some x) (hb : l[b]? = some y) : (swapL l a b x y).Perm l := by
  obtain ⟨h1, rfl⟩ := List.getElem?_eq_some_iff.1 ha
  obtain ⟨h2, rfl⟩ := List.getElem?_eq_some_iff.1 hb
  exact List.set_set_perm h1 h2
theorem swapL_len {α : Type} (l : List α) (a b : Nat) (x y : α) : (swapL l a b x y).length = l.length := by simp [swapL]
end Go.Proofs.Ytbjlbambheogbaa
