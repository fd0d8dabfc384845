/-
  Contract of the statements' own 'speaks' of layer 2: four numbers.
-/
import Derived.Test.YtjlklkaaonfpdaaMask5
namespace Go.Proofs.Ytjlklkaaonfpdaa
open Go.RowKit

/-- A list that was answered is a slice of as many. -/
theorem Listed.shape {l : List Nat} {w w' : World} {v : Value} (h : w'.ownsRow w.heap.size 3 1 v l.length (ints l)) : ∃ a cap, v = .slice a l.length cap ∧ l.length ≤ cap ∧ cap ≤ maxLen := by
  rcases h.2 with ⟨h1, h2⟩ | ⟨g, cap, cur, h1, _, _, h3, h4, _⟩
  · exact ⟨none, 0, by rw [h1, h2], by omega, by unfold maxLen; omega⟩
  · exact ⟨_, cap, h1, h3, h4⟩

theorem low6 (w : World) : Calls Try.prog 47 #[.int .i64 6] w fun e w' => e = .returned (.int .u64 63) ∧ w = w' := low_yes 6 w (by decide) (by decide)
theorem mem45 : Ma.mem 45 = [0, 2, 3, 5] := by decide
theorem has5 (w : World) : Calls Try.prog 32 #[.int .u64 45, .int .i64 5] w fun e w' => e = .returned (.bool true) ∧ w = w' := has_yes 45 5 w (by decide) (by decide) (by decide)
theorem has4 (w : World) : Calls Try.prog 32 #[.int .u64 45, .int .i64 4] w fun e w' => e = .returned (.bool false) ∧ w = w' := has_yes 45 4 w (by decide) (by decide) (by decide)
end Go.Proofs.Ytjlklkaaonfpdaa
