/- The laws' Set. -/
import Derived.Test.YtbkcclmhgnplcaaDoorSame
import Derived.Test.YtbkcclmhgnplcaaDoorCelg
namespace Go.Proofs.YtbkcclmhgnplcaaDoor
open Go.RowKit Go.Shelf
set_option maxRecDepth 100000 in
set_option maxHeartbeats 2000000 in
theorem set_any (A : Option Addr) (q c : Nat) (mm n : Int) (w : World) (h1 : 1 ≤ q) (h4 : q ≤ 4) (hn : inK .i64 n) :
    Calls Tryd.prog 18 #[.agg #[.slice A q c, .int .i64 mm], .int .i64 n] w fun e w' => e = .returned (.int .i64 (n % 2 ^ q)) ∧ w' = w.alloc (.cells #[.slice A q c, .int .i64 mm] 25) := by
  have HW := Lib.hid (fun (m : Int) (W : World) (h1 : 1 ≤ m) (h2 : m ≤ 16) => lwithin2 n m W hn h1 (by omega))
  clear hn
  rcases (by omega : q = 1 ∨ q = 2 ∨ q = 3 ∨ q = 4) with rfl | rfl | rfl | rfl
  all_goals
    go_enter Tryd.func18, Tryd.ntmps18
    go_wp2_with fail
    refine (HW.out _ _ (by decide) (by decide)).mono ?_
    rintro e w1 ⟨rfl, rfl⟩
    go_wp2
    go_ret
    exact ⟨rfl, rfl⟩
theorem set_bd (n : Int) (q : Nat) (h1 : 1 ≤ q) (h4 : q ≤ 4) : 0 ≤ n % 2 ^ q ∧ n % 2 ^ q ≤ 15 ∧ n % 2 ^ q ≤ fullB q := by
  unfold fullB
  rcases (by omega : q = 1 ∨ q = 2 ∨ q = 3 ∨ q = 4) with rfl | rfl | rfl | rfl <;> simp <;> omega
end Go.Proofs.YtbkcclmhgnplcaaDoor
