/-
  Contract of the statements' own 'speaks' of layer 8.
-/
import Derived.Test.YtlpaijobcopbnaaSlot1
namespace Go.Proofs.Ytlpaijobcopbnaa
open Go.RowKit Go.Sort

theorem below_two {w w1 w2 : World} (h : Below w.heap.size w w1) (h2 : Below w1.heap.size w1 w2) : Below w.heap.size w w2 := h.trans (h2.mono h.size)
theorem s8_record (w : World) : Calls Try.prog 9 #[.agg #[.int .i64 10, .int .i64 1, .int .i64 2]] w fun e w' => e = .returned (.int .i64 7) ∧ Below w.heap.size w w' := record_any 10 1 2 w (by decide) (by decide)
theorem s8_size (w : World) : Calls Try.prog 17 #[.agg #[.int .i64 10, .int .i64 1, .int .i64 2]] w fun e w' => e = .returned (.int .i64 37) ∧ Below w.heap.size w w' := size8_any 10 1 2 w (by decide) (by decide) (by decide)
theorem s8_at (w : World) : Calls Try.prog 14 #[.agg #[.int .i64 10, .int .i64 1, .int .i64 2], .int .i64 0, .int .i64 1] w fun e w' => e = .returned (.int .i64 26) ∧ Below w.heap.size w w' := at_any 10 1 2 0 1 w (by decide) (by decide) (by decide) (by decide) (by decide)
theorem s8_held (w : World) : Calls Try.prog 10 #[.agg #[.int .i64 10, .int .i64 1, .int .i64 2], .int .i64 1] w fun e w' => e = .returned (.int .i64 12) ∧ Below w.heap.size w w' := pheld_any 10 1 2 1 w (by decide) (by decide) (by decide)
theorem s8_answer (w : World) : Calls Try.prog 16 #[.agg #[.int .i64 10, .int .i64 1, .int .i64 2], .int .i64 1] w fun e w' => e = .returned (.int .i64 5) ∧ Below w.heap.size w w' := answer_any 10 1 2 1 w (by decide) (by decide)

set_option maxHeartbeats 1000000 in
theorem speaks8 (w : World) :
    Calls Try.prog 7 #[] w fun e w' => e = .returned (.bool true) ∧ Below w.heap.size w w' := by
  have F0 := Fr.box w 10 1 2 25
  go_enter Try.func7, Try.ntmps7
  go_wp2_with fail
  refine (s8_record _).mono ?_
  rintro e w1 ⟨rfl, hb⟩
  have F1 := F0.next hb
  have B1 := Lib.hid (box_then hb)
  clear hb F0
  obtain ⟨c0, c1, c2⟩ := F1
  have F1 : Fr w1 w.heap.size 10 1 2 := ⟨c0, c1, c2⟩
  have d0 : w1.cell? ⟨w.heap.size, 0, none⟩ = some (.int .i64 10) := c0
  have d1 : w1.cell? ⟨w.heap.size, 1, none⟩ = some (.int .i64 1) := c1
  have d2 : w1.cell? ⟨w.heap.size, 2, none⟩ = some (.int .i64 2) := c2
  clear c0 c1 c2
  go_wp2_with fail
  refine (s8_size _).mono ?_
  rintro e w2 ⟨rfl, hb⟩
  have F2 := F1.next hb
  have B2 := Lib.hid (B1.out.trans (hb.mono B1.out.size))
  clear hb F1 d0 d1 d2
  obtain ⟨c0, c1, c2⟩ := F2
  have F2 : Fr w2 w.heap.size 10 1 2 := ⟨c0, c1, c2⟩
  have d0 : w2.cell? ⟨w.heap.size, 0, none⟩ = some (.int .i64 10) := c0
  have d1 : w2.cell? ⟨w.heap.size, 1, none⟩ = some (.int .i64 1) := c1
  have d2 : w2.cell? ⟨w.heap.size, 2, none⟩ = some (.int .i64 2) := c2
  clear c0 c1 c2
  go_wp2_with fail
  refine (s8_at _).mono ?_
  rintro e w3 ⟨rfl, hb⟩
  have F3 := F2.next hb
  have B3 := Lib.hid (B2.out.trans (hb.mono B2.out.size))
  clear hb F2 d0 d1 d2
  obtain ⟨c0, c1, c2⟩ := F3
  have F3 : Fr w3 w.heap.size 10 1 2 := ⟨c0, c1, c2⟩
  have d0 : w3.cell? ⟨w.heap.size, 0, none⟩ = some (.int .i64 10) := c0
  have d1 : w3.cell? ⟨w.heap.size, 1, none⟩ = some (.int .i64 1) := c1
  have d2 : w3.cell? ⟨w.heap.size, 2, none⟩ = some (.int .i64 2) := c2
  clear c0 c1 c2
  go_wp2_with fail
  refine (s8_held _).mono ?_
  rintro e w4 ⟨rfl, hb⟩
  have F4 := F3.next hb
  have B4 := Lib.hid (B3.out.trans (hb.mono B3.out.size))
  clear hb F3 d0 d1 d2
  obtain ⟨c0, c1, c2⟩ := F4
  have F4 : Fr w4 w.heap.size 10 1 2 := ⟨c0, c1, c2⟩
  have d0 : w4.cell? ⟨w.heap.size, 0, none⟩ = some (.int .i64 10) := c0
  have d1 : w4.cell? ⟨w.heap.size, 1, none⟩ = some (.int .i64 1) := c1
  have d2 : w4.cell? ⟨w.heap.size, 2, none⟩ = some (.int .i64 2) := c2
  clear c0 c1 c2
  go_wp2_with fail
  refine (s8_answer _).mono ?_
  rintro e w5 ⟨rfl, hb⟩
  have F5 := F4.next hb
  have B5 := Lib.hid (B4.out.trans (hb.mono B4.out.size))
  clear hb F4 d0 d1 d2
  go_wp2_with fail
  go_ret
  exact ⟨rfl, B5.out⟩

end Go.Proofs.Ytlpaijobcopbnaa
