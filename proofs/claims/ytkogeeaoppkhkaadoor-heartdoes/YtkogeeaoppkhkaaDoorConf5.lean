/-
  Contract of the statements' own 'speaks' of layer 4; of the document's own Bound.
-/
import Derived.Test.YtkogeeaoppkhkaaDoorConf4
namespace Go.Proofs.YtkogeeaoppkhkaaDoor
open Go.RowKit

theorem below_after {w w1 w2 : World} (h : Below w.heap.size w w1) (h2 : Below w1.heap.size w1 w2) : Below w.heap.size w w2 := h.trans (h2.mono h.size)
def two (j : Nat) : Int := if j = 0 then 16 else 64
theorem two_row {w : World} {N : Nat} (h : w.heap[N]? = some (.cells #[.int .i64 16, .int .i64 64] 3 (0, 0))) : RowI w (some ⟨N, 0, none⟩) 2 two := fun _ => by
  refine ⟨N, 0, rfl, (Array.getElem?_eq_some_iff.1 h).1, fun j hj => ?_⟩
  rcases (by omega : j = 0 ∨ j = 1) with rfl | rfl
  · simp [World.cell?, h, two]
  · simp [World.cell?, h, two]
theorem nil_row (w : World) (f : Nat → Int) : RowI w none 0 f := fun h => absurd h (by omega)
theorem two_may : mayB 2 1 4 0 2 two = true := by decide
theorem none_may : mayB 0 0 0 0 0 two = false := by decide
theorem bound_two : boundI 2 1 0 = 68 := by decide
theorem rec_two : recI 2 2 = 8 := by decide
theorem heap_at (w : World) (o : Obj) : (w.alloc o).heap[w.heap.size]? = some o := by
  show (w.heap.push o)[w.heap.size]? = _
  rw [Array.getElem?_push, if_pos rfl]

theorem bound_form (W S T : Int) : boundI W S T = (T + 2) * (2 * (2 * S + 3 * W) + 4 * W + 6) + 8 := by
  unfold boundI callI attI
  rw [Int.mul_comm (2 * (2 * S + 3 * W) + 4 * W + 6) (T + 2)]
  omega

end Go.Proofs.YtkogeeaoppkhkaaDoor
