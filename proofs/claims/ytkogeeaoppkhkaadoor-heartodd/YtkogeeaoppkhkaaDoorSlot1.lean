/-
  Contracts of a Frame's methods: where a hall's words lie.
-/
import Derived.Test.YtkogeeaoppkhkaaDoorProg
import Derived.WalkKit
import Derived.WalkSpells
import Derived.Lib.Hide
import Derived.BigQuiet
import Derived.Lib.QuietBelow
namespace Go.Proofs.YtkogeeaoppkhkaaDoor
open Go.RowKit Go.Sort

theorem box1 (w : World) (o : Obj) : Below w.heap.size w (w.alloc o) := (Below.refl _ _).alloc (Nat.le_refl _) o
theorem box_then {w w' : World} {o : Obj} (h : Below (w.alloc o).heap.size (w.alloc o) w') : Below w.heap.size w w' := (box1 w o).trans (h.mono (box1 w o).size)
/-- A frame in its block. -/
structure Fr (w : World) (g : Nat) (B W K : Nat) : Prop where
  c0 : w.cell? ⟨g, 0, none⟩ = some (.int .i64 B)
  c1 : w.cell? ⟨g, 1, none⟩ = some (.int .i64 W)
  c2 : w.cell? ⟨g, 2, none⟩ = some (.int .i64 K)
theorem Fr.lt {w : World} {g B W K : Nat} (h : Fr w g B W K) : g < w.heap.size := World.block_lt_of_cell? w ⟨g, 0, none⟩ h.c0
theorem Fr.next {w w' : World} {g B W K : Nat} (h : Fr w g B W K) (hb : Below w.heap.size w w') : Fr w' g B W K :=
  ⟨(hb.cell (p := ⟨g, 0, none⟩) h.lt).trans h.c0, (hb.cell (p := ⟨g, 1, none⟩) h.lt).trans h.c1, (hb.cell (p := ⟨g, 2, none⟩) h.lt).trans h.c2⟩
theorem Fr.box (w : World) (B W K : Nat) (T : TypeId) : Fr (w.alloc (.cells #[.int .i64 B, .int .i64 W, .int .i64 K] T)) w.heap.size B W K := ⟨by simp, by simp, by simp⟩

/-- Where a record begins. -/
def atN (B W K v s : Nat) : Nat := B + 1 + 4 * K + (2 * v + s) * (W + 3 * K)
theorem at_lt {W K v s : Nat} (hW : W ≤ 1048576) (hK : K ≤ 1048576) (hv : v ≤ 1048576) (hs : s ≤ 1) : (2 * v + s) * (W + 3 * K) ≤ 8796101410816 := by
  have h : (2 * v + s) * (W + 3 * K) ≤ 2097153 * 4194304 := Nat.mul_le_mul (by omega) (by omega)
  omega
end Go.Proofs.YtkogeeaoppkhkaaDoor
