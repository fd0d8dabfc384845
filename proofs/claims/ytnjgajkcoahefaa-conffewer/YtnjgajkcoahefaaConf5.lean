/-
  Contract of the statements' own 'speaks' of layer 4; of the document's own Bound.
-/
import Derived.Test.YtnjgajkcoahefaaConf4
namespace Go.Proofs.Ytnjgajkcoahefaa
open Go.RowKit

theorem below_after {w w1 w2 : World} (h : Below w.heap.size w w1) (h2 : Below w1.heap.size w1 w2) : Below w.heap.size w w2 := h.trans (h2.mono h.size)
def two (j : Nat) : Int := if j = 0 then 16 else 64
theorem two_row {w : World} {N : Nat} (h : w.heap[N]? = some (.cells #[.int .i64 16, .int .i64 64] 3 (0, 0))) : RowI w (some ⟨N, 0, none⟩) 2 two := fun _ => by
  refine ⟨N, 0, rfl, (Array.getElem?_eq_some_iff.1 h).1, fun j hj => ?_⟩
  rcases (by omega : j = 0 ∨ j = 1) with rfl | rfl
  · simp [World.cell?, h, two]
  · simp [World.cell?, h, two]
theorem nil_row (w : World) (f : Nat → Int) : RowI w none 0 f := fun h => absurd h (by omega)
theorem two_may : mayB 2 1 4 0 2 two = true := by decide
theorem none_may : mayB 0 0 0 0 0 two = false := by decide
theorem bound_two : boundI 2 1 0 = 68 := by decide
theorem rec_two : recI 2 2 = 8 := by decide
theorem s_check (N : Nat) (w : World) (h : w.heap[N]? = some (.cells #[.int .i64 16, .int .i64 64] 3 (0, 0))) :
    Calls Try.prog 31 #[.agg #[.int .i64 2, .int .i64 1, .int .i64 4, .int .i64 0, .slice (some ⟨N, 0, none⟩) 2 2]] w fun e w' => e = .returned (.int .i64 0) ∧ Below w.heap.size w w' := by
  have := check_any 2 1 4 0 _ 2 2 two w (two_row h) (by decide)
  rw [two_may] at this
  exact this
theorem s_none (w : World) :
    Calls Try.prog 31 #[.agg #[.int .i64 0, .int .i64 0, .int .i64 0, .int .i64 0, .slice none 0 0]] w fun e w' => e = .returned (.int .i64 1) ∧ Below w.heap.size w w' := by
  have := check_any 0 0 0 0 none 0 0 two w (nil_row w two) (by decide)
  rw [none_may] at this
  exact this
theorem s_bound (cl : Value) (w : World) :
    Calls Try.prog 32 #[.agg #[.int .i64 2, .int .i64 1, .int .i64 4, .int .i64 0, cl]] w fun e w' => e = .returned (.int .i64 68) ∧ Below w.heap.size w w' := by
  have := bound_any 2 1 4 0 cl w (by decide) (by decide) (by decide) (by decide) (by decide) (by decide)
  rw [bound_two] at this
  exact this
theorem s_record (w : World) :
    Calls Try.prog 38 #[.int .i64 2, .int .i64 2] w fun e w' => e = .returned (.int .i64 8) ∧ w = w' := by
  have := record_any 2 2 w (by decide) (by decide) (by decide) (by decide)
  rw [rec_two] at this
  exact this
theorem heap_at (w : World) (o : Obj) : (w.alloc o).heap[w.heap.size]? = some o := by
  show (w.heap.push o)[w.heap.size]? = _
  rw [Array.getElem?_push, if_pos rfl]

set_option maxHeartbeats 1000000 in
theorem speaks4 (w : World) :
    Calls Try.prog 29 #[] w fun e w' => e = .returned (.bool true) ∧ Below w.heap.size w w' := by
  have b1 := below_alloc w (.cells #[.int .i64 16, .int .i64 64] 3)
  have b2 := below_alloc (w.alloc (.cells #[.int .i64 16, .int .i64 64] 3)) (.cells #[.int .i64 2, .int .i64 1, .int .i64 4, .int .i64 0, .slice (some ⟨w.heap.size, 0, none⟩) 2 2] 48)
  have B2 := Lib.hid (below_after b1 b2)
  have R2 := Lib.hid ((b2.block w.heap.size (by simp)).trans (heap_at w (.cells #[.int .i64 16, .int .i64 64] 3)))
  have C2 : Hid (Cfg5 ((w.alloc (.cells #[.int .i64 16, .int .i64 64] 3)).alloc (.cells #[.int .i64 2, .int .i64 1, .int .i64 4, .int .i64 0, .slice (some ⟨w.heap.size, 0, none⟩) 2 2] 48)) (w.heap.size + 1) 2 1 4 0 (.slice (some ⟨w.heap.size, 0, none⟩) 2 2)) := by
    have := cfg_new (w.alloc (.cells #[.int .i64 16, .int .i64 64] 3)) 2 1 4 0 (.slice (some ⟨w.heap.size, 0, none⟩) 2 2)
    rw [show (w.alloc (.cells #[.int .i64 16, .int .i64 64] 3)).heap.size = w.heap.size + 1 from by simp] at this
    exact this
  clear b1 b2
  go_enter Try.func29, Try.ntmps29
  go_wp2_with fail
  generalize (w.alloc (.cells #[.int .i64 16, .int .i64 64] 3)).alloc (.cells #[.int .i64 2, .int .i64 1, .int .i64 4, .int .i64 0, .slice (some ⟨w.heap.size, 0, none⟩) 2 2] 48) = w2 at *
  refine (s_check _ _ R2.out).mono ?_
  rintro e w3 ⟨rfl, hb⟩
  have C3 := Lib.hid (cfg_next C2.out hb)
  have B3 := Lib.hid (below_after B2.out hb)
  clear hb C2 R2
  go_wp2_with fail
  refine (s_none _).mono ?_
  rintro e w4 ⟨rfl, hb⟩
  have C4 := Lib.hid (cfg_next C3.out hb)
  have B4 := Lib.hid (below_after B3.out hb)
  clear hb C3
  obtain ⟨c0, c1, c2, c3, c4⟩ := cfg_cells C4.out
  go_wp2_with fail
  refine (s_bound _ _).mono ?_
  rintro e w5 ⟨rfl, hb⟩
  have B5 := Lib.hid (below_after B4.out hb)
  clear hb C4 c0 c1 c2 c3 c4
  go_wp2_with fail
  refine (s_record _).mono ?_
  rintro e w' ⟨rfl, rfl⟩
  go_wp2_with fail
  go_ret
  exact ⟨rfl, B5.out⟩

theorem bound_form (W S T : Int) : boundI W S T = (T + 2) * (2 * (2 * S + 3 * W) + 4 * W + 6) + 8 := by
  unfold boundI callI attI
  rw [Int.mul_comm (2 * (2 * S + 3 * W) + 4 * W + 6) (T + 2)]
  omega

set_option maxHeartbeats 1000000 in
theorem rbound_any (W S B T : Int) (cl : Value) (w : World) (h0 : 0 ≤ S) (h1 : S ≤ 1000) (h2 : 0 ≤ W) (h3 : W ≤ 1000) (h4 : 0 ≤ T) (h5 : T ≤ 1000) :
    Calls Try.prog 33 #[.agg #[.int .i64 W, .int .i64 S, .int .i64 B, .int .i64 T, cl]] w fun e w' => e = .returned (.int .i64 (boundI W S T)) ∧ Below w.heap.size w w' := by
  rw [bound_form]
  have HB := Lib.hid (below_alloc w (.cells #[.int .i64 W, .int .i64 S, .int .i64 B, .int .i64 T, cl] 48))
  have m0 := mul_bounds (A := 2 * (2 * S + 3 * W) + 4 * W + 6) (t := T) (by omega) (by omega) h4 (by omega)
  rw [Int.mul_comm] at m0
  obtain ⟨m1, m2⟩ := m0
  go_enter Try.func33, Try.ntmps33
  go_wp2
  go_ret
  exact ⟨rfl, HB.out⟩

end Go.Proofs.Ytnjgajkcoahefaa
