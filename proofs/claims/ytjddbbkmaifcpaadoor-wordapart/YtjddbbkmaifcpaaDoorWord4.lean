/-
  Contract of the statements' own 'speaks' of layer 1: four bits.
-/
import Derived.Test.YtjddbbkmaifcpaaDoorWord3
namespace Go.Proofs.YtjddbbkmaifcpaaDoor
open Go.RowKit

/-- Two ints at the head of a block. -/
def Two (w : World) (g : Nat) (v0 v1 : Int) : Prop := w.cell? ⟨g, 0, none⟩ = some (.int .i64 v0) ∧ w.cell? ⟨g, 1, none⟩ = some (.int .i64 v1)
theorem Two.lt {w : World} {g : Nat} {v0 v1 : Int} (h : Two w g v0 v1) : g < w.heap.size := World.block_lt_of_cell? w ⟨g, 0, none⟩ h.1
theorem Two.next {w w' : World} {g : Nat} {v0 v1 : Int} (h : Two w g v0 v1) (hb : Below w.heap.size w w') : Two w' g v0 v1 :=
  ⟨(hb.cell (p := ⟨g, 0, none⟩) h.lt).trans h.1, (hb.cell (p := ⟨g, 1, none⟩) h.lt).trans h.2⟩
theorem Two.new (w : World) (v0 v1 : Int) (T : TypeId) : Two (w.alloc (.cells #[.int .i64 v0, .int .i64 v1] T)) w.heap.size v0 v1 := ⟨by simp, by simp⟩

theorem s_put (w : World) : Calls Tryd.prog 18 #[.agg #[.int .i64 8, .int .i64 4], .int .u64 6708, .int .u64 5] w fun e w' => e = .returned (.tuple #[.int .u64 5428, .bool true]) ∧ Below w.heap.size w w' := by
  have := put_yes 6708 5 8 4 w (by decide) (by unfold okF; decide) (by decide)
  rw [show Ma.putN 6708 5 8 4 = 5428 from by decide +kernel] at this
  exact this
theorem s_right (w : World) : Calls Tryd.prog 16 #[.agg #[.int .i64 8, .int .i64 4]] w fun e w' => e = .returned (.bool true) ∧ Below w.heap.size w w' := right_yes 8 4 w (by unfold okF; decide)
theorem s_get (w : World) : Calls Tryd.prog 19 #[.agg #[.int .i64 8, .int .i64 4], .int .u64 6708] w fun e w' => e = .returned (.int .u64 10) ∧ Below w.heap.size w w' := by
  have := get_yes 6708 8 4 w (by decide) (by unfold okF; decide)
  rw [show Ma.getN 6708 8 4 = 10 from by decide +kernel] at this
  exact this
theorem s_signed (w : World) : Calls Tryd.prog 20 #[.agg #[.int .i64 8, .int .i64 4], .int .u64 6708] w fun e w' => e = .returned (.int .i64 (-6)) ∧ Below w.heap.size w w' := by
  have := signed_yes 6708 8 4 w (by unfold okF; decide)
  rw [show Ma.signN 6708 8 4 = -6 from by decide +kernel] at this
  exact this
theorem s_of (w : World) (hR : Hid (RefAt w)) : Calls Tryd.prog 24 #[.agg #[.int .i64 3, .int .i64 1, .int .i64 7]] w fun e w' => e = .returned (.int .u64 (ofR 3 1 7 : Nat)) ∧ Below w.heap.size w w' := of_any 3 1 7 w hR
theorem s_facts : ofR 3 1 7 < 18446744073709551616 ∧ toX (ofR 3 1 7) = 3 ∧ toY (ofR 3 1 7) = 1 ∧ toZ (ofR 3 1 7) = 7 := by decide +kernel
theorem s_to (w : World) (hR : Hid (RefAt w)) : Calls Tryd.prog 25 #[.int .u64 (ofR 3 1 7 : Nat)] w fun e w' => e = .returned (.tuple #[.agg #[.int .i64 3, .int .i64 1, .int .i64 7], .bool true]) ∧ Below w.heap.size w w' := by
  obtain ⟨h1, h2, h3, h4⟩ := s_facts
  refine (to_any (ofR 3 1 7) w h1 hR).mono ?_
  rintro e w' ⟨ha, _, hb⟩
  rw [h2, h3, h4] at ha
  exact ⟨ha rfl, hb⟩

set_option maxHeartbeats 1000000 in
theorem speaks1 (w : World) (hR : Hid (RefAt w)) :
    Calls Tryd.prog 15 #[] w fun e w' => e = .returned (.bool true) ∧ Below w.heap.size w w' := by
  go_enter Tryd.func15, Tryd.ntmps15
  go_wp2_with fail
  refine (s_put _).mono ?_
  rintro e w1 ⟨rfl, hb⟩
  have T1 := (Two.new w 8 4 _).next hb
  have B1 := Lib.hid ((belowBox w _).trans (hb.mono (by simp)))
  have R1 : Hid (RefAt w1) := hR.out.next B1.out
  clear hb
  obtain ⟨t0, t1⟩ := T1
  go_wp2_with fail
  refine (s_of _ R1).mono ?_
  rintro e w2 ⟨rfl, hb⟩
  have T2 := Two.next ⟨t0, t1⟩ hb
  have B2 := Lib.hid (below_next B1.out hb)
  have R2 : Hid (RefAt w2) := hR.out.next B2.out
  clear hb t0 t1
  go_wp2_with fail
  refine (s_to _ R2).mono ?_
  rintro e w3 ⟨rfl, hb⟩
  have T3 := T2.next hb
  have B3 := Lib.hid (below_next B2.out hb)
  clear hb T2
  obtain ⟨t0, t1⟩ := T3
  have hlt := Two.lt ⟨t0, t1⟩
  go_wp2_with fail
  refine (s_right _).mono ?_
  rintro e w4 ⟨rfl, hb⟩
  have T4 := (Two.next ⟨t0, t1⟩ (belowBox w3 _)).next hb
  have U4 := (Three.new w3 3 1 7 40).next hb (by simp)
  have B4 := Lib.hid (below_next (below_next B3.out (belowBox w3 _)) hb)
  clear hb t0 t1 hlt
  obtain ⟨t0, t1⟩ := T4
  go_wp2_with fail
  refine (s_get _).mono ?_
  rintro e w5 ⟨rfl, hb⟩
  have T5 := Two.next ⟨t0, t1⟩ hb
  have U5 := U4.next hb U4.lt
  have B5 := Lib.hid (below_next B4.out hb)
  clear hb t0 t1 U4
  obtain ⟨t0, t1⟩ := T5
  go_wp2_with fail
  refine (s_signed _).mono ?_
  rintro e w6 ⟨rfl, hb⟩
  have U6 := U5.next hb U5.lt
  have B6 := Lib.hid (below_next B5.out hb)
  clear hb t0 t1 U5
  obtain ⟨u0, u1, u2, _, _, _⟩ := U6
  go_wp2_with fail
  go_ret
  exact ⟨rfl, B6.out⟩

end Go.Proofs.YtjddbbkmaifcpaaDoor
