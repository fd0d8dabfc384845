/-
  Contract of the statements' own 'speaks' of layer 2: four numbers.
-/
import Derived.Test.YtkogeeaoppkhkaaDoorMask5
namespace Go.Proofs.YtkogeeaoppkhkaaDoor
open Go.RowKit

/-- A list that was answered is a slice of as many. -/
theorem Listed.shape {l : List Nat} {w w' : World} {v : Value} (h : w'.ownsRow w.heap.size 3 1 v l.length (ints l)) : ∃ a cap, v = .slice a l.length cap ∧ l.length ≤ cap ∧ cap ≤ maxLen := by
  rcases h.2 with ⟨h1, h2⟩ | ⟨g, cap, cur, h1, _, _, h3, h4, _⟩
  · exact ⟨none, 0, by rw [h1, h2], by omega, by unfold maxLen; omega⟩
  · exact ⟨_, cap, h1, h3, h4⟩

theorem low6 (w : World) : Calls Tryd.prog 42 #[.int .i64 6] w fun e w' => e = .returned (.int .u64 63) ∧ w = w' := low_yes 6 w (by decide) (by decide)
theorem wo1 (w : World) : Calls Tryd.prog 68 #[.int .u64 63, .int .i64 1] w fun e w' => e = .returned (.int .u64 61) ∧ w = w' := without_yes 63 1 w (by decide) (by decide) (by decide)
theorem wo4 (w : World) : Calls Tryd.prog 68 #[.int .u64 61, .int .i64 4] w fun e w' => e = .returned (.int .u64 45) ∧ w = w' := without_yes 61 4 w (by decide) (by decide) (by decide)
theorem run45 (w : World) : Calls Tryd.prog 83 #[.int .u64 45, .int .i64 2] w fun e w' => e = .returned (.tuple #[.int .i64 2, .bool true]) ∧ w = w' :=
  run_found 45 2 2 w (by decide) (by decide) (by decide) (by decide) (show ∀ k, k < 2 → Ma.isRow 45 k 2 = false by decide)
theorem count45 (w : World) : Calls Tryd.prog 24 #[.int .u64 45] w fun e w' => e = .returned (.int .i64 4) ∧ w = w' := count_any 45 w (by decide)
theorem mem45 : Ma.mem 45 = [0, 2, 3, 5] := by decide
theorem least45 (w : World) (hT : Hid (TabAt w)) : Calls Tryd.prog 79 #[.int .u64 45, .int .i64 2] w fun e w' => e = .returned (.int .u64 5) ∧ w = w' := by
  have := least_any 45 2 w (by decide) (by decide) hT
  rw [show Ma.leastN 45 (Int.toNat 2) = 5 from by unfold Ma.leastN; rw [mem45]; decide] at this
  exact this
theorem first45 (w : World) (hT : Hid (TabAt w)) : Calls Tryd.prog 69 #[.int .u64 45] w fun e w' => e = .returned (.int .i64 0) ∧ w = w' := first_any 45 w (by decide) hT
theorem has5 (w : World) : Calls Tryd.prog 41 #[.int .u64 45, .int .i64 5] w fun e w' => e = .returned (.bool true) ∧ w = w' := has_yes 45 5 w (by decide) (by decide) (by decide)
theorem has4 (w : World) : Calls Tryd.prog 41 #[.int .u64 45, .int .i64 4] w fun e w' => e = .returned (.bool false) ∧ w = w' := has_yes 45 4 w (by decide) (by decide) (by decide)
theorem list45 (w : World) (hT : Hid (TabAt w)) : Calls Tryd.prog 36 #[.int .u64 45] w (Listed (Ma.mem 45) w) := list_any 45 w (by decide) hT

end Go.Proofs.YtkogeeaoppkhkaaDoor
