/-
  Len and Pop of a class that there isn't; Push there.
-/
import Derived.Test.YtehmeccjgjhidaaDoorStockE
namespace Go.Proofs.YtehmeccjgjhidaaDoor
open Go.RowKit Go.Maps Go.Sort

theorem pil_cells (w : World) : (w.alloc (.cells #[.slice none 0 0, .map none] 53)).cell? ⟨w.heap.size, 0, none⟩ = some (.slice none 0 0) ∧ (w.alloc (.cells #[.slice none 0 0, .map none] 53)).cell? ⟨w.heap.size, 1, none⟩ = some (.map none) := by
  have h := heap_new w (.cells #[.slice none 0 0, .map none] 53)
  exact ⟨by rw [cell_of h]; rfl, by rw [cell_of h]; rfl⟩
section
variable (sb clb pb : Nat) (W S B T : Int) (len : Nat) (f : Nat → Int) (n : Nat) (P : Nat → List (Int × Int)) (L : Nat → Value) (M : Nat → Nat)
set_option maxHeartbeats 1000000 in
theorem len_out (k : Int) (w : World) (h : Hid (Stk w sb clb pb W S B T len f n P L M)) (hk : k < 0 ∨ (len : Int) ≤ k) :
    Calls Tryd.prog 15 #[.pointer (some ⟨sb, 0, none⟩), .int .i64 k] w fun e w' => e = .returned (.int .i64 0) ∧ Below w.heap.size w w' := by
  have PI := Lib.hid (pile_out sb clb pb W S B T len f n P L M k w h hk)
  have B0 := Lib.hid (box1 w (.cells #[.slice none 0 0, .map none] 53))
  obtain ⟨q0, q1⟩ := pil_cells w
  go_enter Tryd.func15, Tryd.ntmps15
  go_wp2_with fail
  refine PI.out.mono ?_
  rintro e w1 ⟨rfl, rfl⟩
  generalize w.alloc (.cells #[.slice none 0 0, .map none] 53) = w1 at *
  go_wp2_with fail
  go_ret
  exact ⟨rfl, B0.out⟩
set_option maxRecDepth 20000 in
set_option maxHeartbeats 4000000 in
theorem pop_out (k : Int) (w : World) (h : Hid (Stk w sb clb pb W S B T len f n P L M)) (hk : k < 0 ∨ (len : Int) ≤ k) :
    Calls Tryd.prog 14 #[.pointer (some ⟨sb, 0, none⟩), .int .i64 k] w fun e w' => e = .returned (.tuple #[.agg #[.int .i64 0, .int .i64 0], .bool false]) ∧ Below w.heap.size w w' := by
  have X0 : Hid (Two5 (w.alloc (.cells #[.int .i64 0, .int .i64 0] 32)) w.heap.size 32 0 0) := Two5.new w _ _ _
  have K0 := Lib.hid (h.out.next (box1 w (.cells #[.int .i64 0, .int .i64 0] 32)))
  have B0 := Lib.hid (box1 w (.cells #[.int .i64 0, .int .i64 0] 32))
  go_enter Tryd.func14, Tryd.ntmps14
  go_wp2_with fail
  generalize w.alloc (.cells #[.int .i64 0, .int .i64 0] 32) = w0 at *
  generalize hN : w.heap.size = N at *
  refine (pile_out sb clb pb W S B T len f n P L M k w0 K0 hk).mono ?_
  rintro e w1 ⟨rfl, rfl⟩
  obtain ⟨q0, q1⟩ := pil_cells w0
  have bb := box1 w0 (.cells #[.slice none 0 0, .map none] 53)
  have X1 := Lib.hid (X0.out.next bb)
  have B1 : Hid (Below N w _) := B0.out.trans (bb.mono (by have := B0.out.size; omega))
  clear bb X0 B0 K0
  generalize w0.alloc (.cells #[.slice none 0 0, .map none] 53) = w1 at *
  have x0 := two_c0 X1.out
  have x1 := two_c1 X1.out
  have f0 := frozen_of (j := 0) X1.out
  have f1 := frozen_of (j := 1) X1.out
  go_wp2_with fail
  exact bodyPost_ret (v := .tuple #[.agg #[.int .i64 0, .int .i64 0], .bool false]) (by simp [results, Tryd.results14, go_sem, x0, x1]) rfl ⟨rfl, by rw [hN]; first | exact B1.out | exact (B1.out.setCell (p := ⟨N, 0, none⟩) (Nat.le_refl _) _).setCell (p := ⟨N, 1, none⟩) (Nat.le_refl _) _⟩
end
end Go.Proofs.YtehmeccjgjhidaaDoor
