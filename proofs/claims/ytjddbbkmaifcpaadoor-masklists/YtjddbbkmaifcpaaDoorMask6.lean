/-
  Contract of the statements' own 'speaks' of layer 2: four numbers.
-/
import Derived.Test.YtjddbbkmaifcpaaDoorMask5
namespace Go.Proofs.YtjddbbkmaifcpaaDoor
open Go.RowKit

/-- A list that was answered is a slice of as many. -/
theorem Listed.shape {l : List Nat} {w w' : World} {v : Value} (h : w'.ownsRow w.heap.size 3 1 v l.length (ints l)) : ∃ a cap, v = .slice a l.length cap ∧ l.length ≤ cap ∧ cap ≤ maxLen := by
  rcases h.2 with ⟨h1, h2⟩ | ⟨g, cap, cur, h1, _, _, h3, h4, _⟩
  · exact ⟨none, 0, by rw [h1, h2], by omega, by unfold maxLen; omega⟩
  · exact ⟨_, cap, h1, h3, h4⟩

theorem low6 (w : World) : Calls Tryd.prog 37 #[.int .i64 6] w fun e w' => e = .returned (.int .u64 63) ∧ w = w' := low_yes 6 w (by decide) (by decide)
theorem wo1 (w : World) : Calls Tryd.prog 40 #[.int .u64 63, .int .i64 1] w fun e w' => e = .returned (.int .u64 61) ∧ w = w' := without_yes 63 1 w (by decide) (by decide) (by decide)
theorem wo4 (w : World) : Calls Tryd.prog 40 #[.int .u64 61, .int .i64 4] w fun e w' => e = .returned (.int .u64 45) ∧ w = w' := without_yes 61 4 w (by decide) (by decide) (by decide)
theorem run45 (w : World) : Calls Tryd.prog 33 #[.int .u64 45, .int .i64 2] w fun e w' => e = .returned (.tuple #[.int .i64 2, .bool true]) ∧ w = w' :=
  run_found 45 2 2 w (by decide) (by decide) (by decide) (by decide) (show ∀ k, k < 2 → Ma.isRow 45 k 2 = false by decide)
theorem count45 (w : World) : Calls Tryd.prog 31 #[.int .u64 45] w fun e w' => e = .returned (.int .i64 4) ∧ w = w' := count_any 45 w (by decide)
theorem mem45 : Ma.mem 45 = [0, 2, 3, 5] := by decide
theorem least45 (w : World) (hT : Hid (TabAt w)) : Calls Tryd.prog 35 #[.int .u64 45, .int .i64 2] w fun e w' => e = .returned (.int .u64 5) ∧ w = w' := by
  have := least_any 45 2 w (by decide) (by decide) hT
  rw [show Ma.leastN 45 (Int.toNat 2) = 5 from by unfold Ma.leastN; rw [mem45]; decide] at this
  exact this
theorem first45 (w : World) (hT : Hid (TabAt w)) : Calls Tryd.prog 32 #[.int .u64 45] w fun e w' => e = .returned (.int .i64 0) ∧ w = w' := first_any 45 w (by decide) hT
theorem has5 (w : World) : Calls Tryd.prog 29 #[.int .u64 45, .int .i64 5] w fun e w' => e = .returned (.bool true) ∧ w = w' := has_yes 45 5 w (by decide) (by decide) (by decide)
theorem has4 (w : World) : Calls Tryd.prog 29 #[.int .u64 45, .int .i64 4] w fun e w' => e = .returned (.bool false) ∧ w = w' := has_yes 45 4 w (by decide) (by decide) (by decide)
theorem list45 (w : World) (hT : Hid (TabAt w)) : Calls Tryd.prog 28 #[.int .u64 45] w (Listed (Ma.mem 45) w) := list_any 45 w (by decide) hT

set_option maxHeartbeats 1000000 in
theorem speaks2 (w : World) (hT : Hid (TabAt w)) :
    Calls Tryd.prog 26 #[] w fun e w' => e = .returned (.bool true) ∧ Below w.heap.size w w' := by
  go_enter Tryd.func26, Tryd.ntmps26
  go_wp2_with fail
  refine (low6 _).mono ?_
  rintro e w' ⟨rfl, rfl⟩
  go_wp2_with fail
  refine (wo1 _).mono ?_
  rintro e w' ⟨rfl, rfl⟩
  go_wp2_with fail
  refine (wo4 _).mono ?_
  rintro e w' ⟨rfl, rfl⟩
  go_wp2_with fail
  refine (run45 _).mono ?_
  rintro e w' ⟨rfl, rfl⟩
  go_wp2_with fail
  refine (count45 _).mono ?_
  rintro e w' ⟨rfl, rfl⟩
  go_wp2_with fail
  refine (least45 _ hT).mono ?_
  rintro e w' ⟨rfl, rfl⟩
  go_wp2_with fail
  refine (first45 _ hT).mono ?_
  rintro e w' ⟨rfl, rfl⟩
  go_wp2_with fail
  refine (has5 _).mono ?_
  rintro e w' ⟨rfl, rfl⟩
  go_wp2_with fail
  refine (has4 _).mono ?_
  rintro e w' ⟨rfl, rfl⟩
  go_wp2_with fail
  refine (list45 _ hT).mono ?_
  rintro e w' ⟨v, rfl, hown, hb⟩
  obtain ⟨a, cap, hv, _, _⟩ := Listed.shape hown
  rw [hv, show (Ma.mem 45).length = 4 from by rw [mem45]; rfl]
  have HB := Lib.hid hb
  clear hown hv hb
  go_wp2
  go_ret
  exact ⟨rfl, HB.out⟩

end Go.Proofs.YtjddbbkmaifcpaaDoor
