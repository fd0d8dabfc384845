/-
  Contracts of package conf's bounds: Record, Attempt, Call, State.
-/
import Derived.Test.YtkogeeaoppkhkaaDoorProg
import Derived.WalkKit
import Derived.WalkSpells
import Derived.Lib.Hide
import Derived.OpenShut
import Derived.Deep.RegionHeld3
import Derived.BigQuiet
namespace Go.Proofs.YtkogeeaoppkhkaaDoor
open Go.RowKit

theorem below_alloc (w : World) (o : Obj) : Below w.heap.size w (w.alloc o) := (Below.refl _ _).alloc (Nat.le_refl _) o
theorem cret_int {k : IntKind} {a b : Int} (h : a = b) : Ending.returned (.int k a) = .returned (.int k b) := by rw [h]

def recI (a b : Int) : Int := a + 3 * b
def attI (a b : Int) : Int := 2 * (a + 3 * b) + 4 * b + 6
def callI (a b t : Int) : Int := attI a b * (t + 2) + 6
theorem att_bounds {a b : Int} (h0 : 0 ≤ a) (h1 : a ≤ 1048577) (h2 : 0 ≤ b) (h3 : b ≤ 1048577) : 6 ≤ attI a b ∧ attI a b ≤ 20000000 := by unfold attI; omega
theorem mul_bounds {A t : Int} (h0 : 0 ≤ A) (h1 : A ≤ 20000000) (h2 : 0 ≤ t) (h3 : t ≤ 1048577) : 0 ≤ A * (t + 2) ∧ A * (t + 2) ≤ 41943040000000 := by
  have h4 : 0 ≤ t + 2 := by omega
  refine ⟨Int.mul_nonneg h0 h4, ?_⟩
  calc A * (t + 2) ≤ 20000000 * (t + 2) := Int.mul_le_mul_of_nonneg_right h1 h4
    _ ≤ 41943040000000 := by omega

/-- A system's cells. -/
def cfg (W S B T : Int) (cl : Value) : Value := .agg #[.int .i64 W, .int .i64 S, .int .i64 B, .int .i64 T, cl]
theorem state_any (W S B T : Int) (cl : Value) (w : World) (h0 : 0 ≤ S) (h1 : S ≤ 1048577) :
    Calls Tryd.prog 45 #[.agg #[.int .i64 W, .int .i64 S, .int .i64 B, .int .i64 T, cl]] w fun e w' => e = .returned (.int .i64 (2 * S)) ∧ Below w.heap.size w w' := by
  have HB := Lib.hid (below_alloc w (.cells #[.int .i64 W, .int .i64 S, .int .i64 B, .int .i64 T, cl] 24))
  go_enter Tryd.func45, Tryd.ntmps45
  go_wp2
  go_ret
  exact ⟨rfl, HB.out⟩

def boundI (W S T : Int) : Int := callI (2 * S) W T + 2
/-- The five cells of a system in a block. -/
def Cfg5 (w : World) (N : Nat) (W S B T : Int) (cl : Value) : Prop := w.heap[N]? = some (.cells #[.int .i64 W, .int .i64 S, .int .i64 B, .int .i64 T, cl] 24 (0, 0))
theorem cfg_lt {w : World} {N : Nat} {W S B T : Int} {cl : Value} (h : Cfg5 w N W S B T cl) : N < w.heap.size := (Array.getElem?_eq_some_iff.1 h).1
theorem cfg_next {w w' : World} {N : Nat} {W S B T : Int} {cl : Value} (h : Cfg5 w N W S B T cl) (hb : Below w.heap.size w w') : Cfg5 w' N W S B T cl := (hb.block N (cfg_lt h)).trans h
theorem cfg_new (w : World) (W S B T : Int) (cl : Value) : Cfg5 (w.alloc (.cells #[.int .i64 W, .int .i64 S, .int .i64 B, .int .i64 T, cl] 24)) w.heap.size W S B T cl := by
  show (w.heap.push _)[w.heap.size]? = _
  rw [Array.getElem?_push, if_pos rfl]
theorem cfg_cells {w : World} {N : Nat} {W S B T : Int} {cl : Value} (h : Cfg5 w N W S B T cl) : w.cell? ⟨N, 0, none⟩ = some (.int .i64 W) ∧ w.cell? ⟨N, 1, none⟩ = some (.int .i64 S) ∧ w.cell? ⟨N, 2, none⟩ = some (.int .i64 B) ∧ w.cell? ⟨N, 3, none⟩ = some (.int .i64 T) ∧ w.cell? ⟨N, 4, none⟩ = some cl := by
  unfold Cfg5 at h
  refine ⟨?_, ?_, ?_, ?_, ?_⟩ <;> simp [World.cell?, h]

theorem below_drew2 {N : Nat} {w w1 w2 : World} (h : Below N w w1) (hN : N ≤ w1.drew.heap.size) (h2 : Below w1.drew.heap.size w1.drew w2) : Below N w w2 :=
  h.trans ⟨h2.os, h2.tape, h2.output, h2.size, fun k hk => h2.block k (Nat.lt_of_lt_of_le hk hN)⟩

end Go.Proofs.YtkogeeaoppkhkaaDoor
