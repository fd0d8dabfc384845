/-
  Contract of the statements' own 'speaks' of layer 8.
-/
import Derived.Test.YtchkgmknhndccaaDoorSlot1
namespace Go.Proofs.YtchkgmknhndccaaDoor
open Go.RowKit Go.Sort

theorem below_two {w w1 w2 : World} (h : Below w.heap.size w w1) (h2 : Below w1.heap.size w1 w2) : Below w.heap.size w w2 := h.trans (h2.mono h.size)
theorem s8_record (w : World) : Calls Tryd.prog 72 #[.agg #[.int .i64 10, .int .i64 1, .int .i64 2]] w fun e w' => e = .returned (.int .i64 7) ∧ Below w.heap.size w w' := record_any 10 1 2 w (by decide) (by decide)
theorem s8_size (w : World) : Calls Tryd.prog 55 #[.agg #[.int .i64 10, .int .i64 1, .int .i64 2]] w fun e w' => e = .returned (.int .i64 37) ∧ Below w.heap.size w w' := size8_any 10 1 2 w (by decide) (by decide) (by decide)
theorem s8_at (w : World) : Calls Tryd.prog 67 #[.agg #[.int .i64 10, .int .i64 1, .int .i64 2], .int .i64 0, .int .i64 1] w fun e w' => e = .returned (.int .i64 26) ∧ Below w.heap.size w w' := at_any 10 1 2 0 1 w (by decide) (by decide) (by decide) (by decide) (by decide)
end Go.Proofs.YtchkgmknhndccaaDoor
