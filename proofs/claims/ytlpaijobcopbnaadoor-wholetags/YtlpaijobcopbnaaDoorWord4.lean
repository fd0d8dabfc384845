/-
  Contract of the statements' own 'speaks' of layer 1: four bits.
-/
import Derived.Test.YtlpaijobcopbnaaDoorWord3
namespace Go.Proofs.YtlpaijobcopbnaaDoor
open Go.RowKit

/-- Two ints at the head of a block. -/
def Two (w : World) (g : Nat) (v0 v1 : Int) : Prop := w.cell? ⟨g, 0, none⟩ = some (.int .i64 v0) ∧ w.cell? ⟨g, 1, none⟩ = some (.int .i64 v1)
theorem Two.lt {w : World} {g : Nat} {v0 v1 : Int} (h : Two w g v0 v1) : g < w.heap.size := World.block_lt_of_cell? w ⟨g, 0, none⟩ h.1
theorem Two.next {w w' : World} {g : Nat} {v0 v1 : Int} (h : Two w g v0 v1) (hb : Below w.heap.size w w') : Two w' g v0 v1 :=
  ⟨(hb.cell (p := ⟨g, 0, none⟩) h.lt).trans h.1, (hb.cell (p := ⟨g, 1, none⟩) h.lt).trans h.2⟩
theorem Two.new (w : World) (v0 v1 : Int) (T : TypeId) : Two (w.alloc (.cells #[.int .i64 v0, .int .i64 v1] T)) w.heap.size v0 v1 := ⟨by simp, by simp⟩

theorem s_put (w : World) : Calls Tryd.prog 27 #[.agg #[.int .i64 8, .int .i64 4], .int .u64 6708, .int .u64 5] w fun e w' => e = .returned (.tuple #[.int .u64 5428, .bool true]) ∧ Below w.heap.size w w' := by
  have := put_yes 6708 5 8 4 w (by decide) (by unfold okF; decide) (by decide)
  rw [show Ma.putN 6708 5 8 4 = 5428 from by decide +kernel] at this
  exact this
theorem s_right (w : World) : Calls Tryd.prog 34 #[.agg #[.int .i64 8, .int .i64 4]] w fun e w' => e = .returned (.bool true) ∧ Below w.heap.size w w' := right_yes 8 4 w (by unfold okF; decide)
theorem s_get (w : World) : Calls Tryd.prog 33 #[.agg #[.int .i64 8, .int .i64 4], .int .u64 6708] w fun e w' => e = .returned (.int .u64 10) ∧ Below w.heap.size w w' := by
  have := get_yes 6708 8 4 w (by decide) (by unfold okF; decide)
  rw [show Ma.getN 6708 8 4 = 10 from by decide +kernel] at this
  exact this
theorem s_of (w : World) (hR : Hid (RefAt w)) : Calls Tryd.prog 12 #[.agg #[.int .i64 3, .int .i64 1, .int .i64 7]] w fun e w' => e = .returned (.int .u64 (ofR 3 1 7 : Nat)) ∧ Below w.heap.size w w' := of_any 3 1 7 w hR
theorem s_facts : ofR 3 1 7 < 18446744073709551616 ∧ toX (ofR 3 1 7) = 3 ∧ toY (ofR 3 1 7) = 1 ∧ toZ (ofR 3 1 7) = 7 := by decide +kernel
theorem s_to (w : World) (hR : Hid (RefAt w)) : Calls Tryd.prog 24 #[.int .u64 (ofR 3 1 7 : Nat)] w fun e w' => e = .returned (.tuple #[.agg #[.int .i64 3, .int .i64 1, .int .i64 7], .bool true]) ∧ Below w.heap.size w w' := by
  obtain ⟨h1, h2, h3, h4⟩ := s_facts
  refine (to_any (ofR 3 1 7) w h1 hR).mono ?_
  rintro e w' ⟨ha, _, hb⟩
  rw [h2, h3, h4] at ha
  exact ⟨ha rfl, hb⟩

end Go.Proofs.YtlpaijobcopbnaaDoor
