/-
  Spill of a class that there isn't.
-/
import Derived.Test.YtehmeccjgjhidaaDoorStockM
namespace Go.Proofs.YtehmeccjgjhidaaDoor
open Go.RowKit Go.Maps Go.Sort
section
variable (sb clb pb : Nat) (W S B T : Int) (len : Nat) (f : Nat → Int) (n : Nat) (P : Nat → List (Int × Int)) (L : Nat → Value) (M : Nat → Nat)
set_option maxRecDepth 20000 in
set_option maxHeartbeats 4000000 in
theorem spill_out (k : Int) (w : World) (h : Hid (Stk w sb clb pb W S B T len f n P L M)) (hk : k < 0 ∨ (len : Int) ≤ k) (b0 : 0 ≤ B) (b1 : B ≤ 1000) :
    Calls Tryd.prog 8 #[.pointer (some ⟨sb, 0, none⟩), .int .i64 k] w fun e w' => e = .returned (.tuple #[.int .i64 0, .int .u64 0, .bool false]) ∧ Below w.heap.size w w' := by
  have X0 : Hid (In1 (w.alloc (.cells #[.int .i64 0] 3)) w.heap.size 0) := heap_new w _
  have K0 := Lib.hid (h.out.next (box1 w (.cells #[.int .i64 0] 3)))
  have B0 := Lib.hid (box1 w (.cells #[.int .i64 0] 3))
  go_enter Tryd.func8, Tryd.ntmps8
  go_wp2_with fail
  generalize w.alloc (.cells #[.int .i64 0] 3) = w9 at *
  generalize hN : w.heap.size = N at *
  refine (pile_out sb clb pb W S B T len f n P L M k w9 K0 hk).mono ?_
  rintro e w1 ⟨rfl, rfl⟩
  obtain ⟨q0, q1⟩ := pil_cells w9
  have bb := box1 w9 (.cells #[.slice none 0 0, .map none] 53)
  have K1 := Lib.hid (K0.out.next bb)
  have X1 := Lib.hid (X0.out.next bb)
  have B1 : Hid (Below N w _) := B0.out.trans (bb.mono (by have := B0.out.size; omega))
  clear bb X0 B0 K0
  generalize w9.alloc (.cells #[.slice none 0 0, .map none] 53) = w0 at *
  obtain ⟨c0, c1, c2, c3, c4, c5⟩ := K1.out.cells
  have wb : IntKind.i64.wrap (2 * B) = 2 * B := by rw [IntKind.wrap_i64]; omega
  have x0 := X1.out.c0
  have j0 := cell_regrown q0
  have j1 := cell_regrown c2
  go_upto_region 2 with fail
  have g0 : (((0 : Nat) : Int) == 0) = true := rfl
  refine wp_region_quiet_below (by kernel_rfl) (by kernel_rfl) ?_
  repeat (go_big_quiet_step (fail))
  refine wpQuiet_nil ?_
  intro _ hw'
  obtain ⟨⟨dq, osq⟩, hw''⟩ := hw'
  subst hw''
  have X4 := Lib.hid (X1.out.next (below_regrown w0 dq osq))
  have B4 : Hid (Below N w _) := B1.out.trans ((below_regrown w0 dq osq).mono (by have := B1.out.size; omega))
  clear j0 j1 q0 q1 c0 c1 c2 c3 c4 c5 x0 K1 X1 B1
  generalize Sort.grow (redrawn w0 dq) osq = w4 at *
  have x0 := X4.out.c0
  have ff := frozen_of (j := 0) X4.out
  go_wp2_with fail
  exact bodyPost_ret (v := .tuple #[.int .i64 0, .int .u64 0, .bool false]) (by simp [results, Tryd.results8, go_sem, x0]) rfl ⟨rfl, by rw [hN]; first | exact B4.out | exact B4.out.setCell (p := ⟨N, 0, none⟩) (Nat.le_refl _) _⟩
end
end Go.Proofs.YtehmeccjgjhidaaDoor
