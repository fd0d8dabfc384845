/-
  Contracts of a Frame's methods: where a hall's words lie.
-/
import Derived.Test.YtchkgmknhndccaaDoorProg
import Derived.WalkKit
import Derived.WalkSpells
import Derived.Lib.Hide
import Derived.BigQuiet
import Derived.Lib.QuietBelow
namespace Go.Proofs.YtchkgmknhndccaaDoor
open Go.RowKit Go.Sort

theorem box1 (w : World) (o : Obj) : Below w.heap.size w (w.alloc o) := (Below.refl _ _).alloc (Nat.le_refl _) o
theorem box_then {w w' : World} {o : Obj} (h : Below (w.alloc o).heap.size (w.alloc o) w') : Below w.heap.size w w' := (box1 w o).trans (h.mono (box1 w o).size)
/-- A frame in its block. -/
structure Fr (w : World) (g : Nat) (B W K : Nat) : Prop where
  c0 : w.cell? ⟨g, 0, none⟩ = some (.int .i64 B)
  c1 : w.cell? ⟨g, 1, none⟩ = some (.int .i64 W)
  c2 : w.cell? ⟨g, 2, none⟩ = some (.int .i64 K)
theorem Fr.lt {w : World} {g B W K : Nat} (h : Fr w g B W K) : g < w.heap.size := World.block_lt_of_cell? w ⟨g, 0, none⟩ h.c0
theorem Fr.next {w w' : World} {g B W K : Nat} (h : Fr w g B W K) (hb : Below w.heap.size w w') : Fr w' g B W K :=
  ⟨(hb.cell (p := ⟨g, 0, none⟩) h.lt).trans h.c0, (hb.cell (p := ⟨g, 1, none⟩) h.lt).trans h.c1, (hb.cell (p := ⟨g, 2, none⟩) h.lt).trans h.c2⟩
theorem Fr.box (w : World) (B W K : Nat) (T : TypeId) : Fr (w.alloc (.cells #[.int .i64 B, .int .i64 W, .int .i64 K] T)) w.heap.size B W K := ⟨by simp, by simp, by simp⟩

theorem head8_any (B W K : Nat) (w : World) :
    Calls Tryd.prog 57 #[.agg #[.int .i64 B, .int .i64 W, .int .i64 K]] w fun e w' => e = .returned (.int .i64 B) ∧ Below w.heap.size w w' := by
  go_enter Tryd.func57, Tryd.ntmps57
  go_wp2
  go_ret
  exact ⟨rfl, box1 _ _⟩
theorem record_any (B W K : Nat) (w : World) (hW : W ≤ 1048576) (hK : K ≤ 1048576) :
    Calls Tryd.prog 72 #[.agg #[.int .i64 B, .int .i64 W, .int .i64 K]] w fun e w' => e = .returned (.int .i64 ((W + 3 * K : Nat) : Int)) ∧ Below w.heap.size w w' := by
  have E1 : Hid ((W : Int) + 3 * (K : Int) = ((W + 3 * K : Nat) : Int)) := by show _ = _; omega
  go_enter Tryd.func72, Tryd.ntmps72
  go_wp2
  go_ret
  exact ⟨by rw [← E1.out]; rfl, box1 _ _⟩
theorem row_any (B W K n : Nat) (w : World) (hB : B ≤ 1048576) (hK : K ≤ 1048576) (hn : n ≤ 4) :
    Calls Tryd.prog 71 #[.agg #[.int .i64 B, .int .i64 W, .int .i64 K], .int .i64 n] w fun e w' => e = .returned (.int .i64 ((B + 1 + n * K : Nat) : Int)) ∧ Below w.heap.size w w' := by
  have hp : n * K ≤ 4 * 1048576 := Nat.mul_le_mul hn hK
  have h0 : (n : Int) * (K : Int) = ((n * K : Nat) : Int) := by simp
  have h1 : wrap64 ((n : Int) * (K : Int)) = ((n * K : Nat) : Int) := by rw [h0]; unfold wrap64; omega
  have E1 : Hid ((B : Int) + 1 + ((n * K : Nat) : Int) = ((B + 1 + n * K : Nat) : Int)) := by show _ = _; omega
  generalize hP : n * K = P at *
  have HP := Lib.hid hP
  clear hP h0
  go_enter Tryd.func71, Tryd.ntmps71
  go_wp2
  go_ret
  exact ⟨by rw [← E1.out]; rfl, box1 _ _⟩
/-- Where a record begins. -/
def atN (B W K v s : Nat) : Nat := B + 1 + 4 * K + (2 * v + s) * (W + 3 * K)
theorem at_lt {W K v s : Nat} (hW : W ≤ 1048576) (hK : K ≤ 1048576) (hv : v ≤ 1048576) (hs : s ≤ 1) : (2 * v + s) * (W + 3 * K) ≤ 8796101410816 := by
  have h : (2 * v + s) * (W + 3 * K) ≤ 2097153 * 4194304 := Nat.mul_le_mul (by omega) (by omega)
  omega
theorem at_any (B W K v s : Nat) (w : World) (hB : B ≤ 1048576) (hW : W ≤ 1048576) (hK : K ≤ 1048576) (hv : v ≤ 1048576) (hs : s ≤ 1) :
    Calls Tryd.prog 67 #[.agg #[.int .i64 B, .int .i64 W, .int .i64 K], .int .i64 v, .int .i64 s] w fun e w' => e = .returned (.int .i64 (atN B W K v s : Nat)) ∧ Below w.heap.size w w' := by
  have F := Fr.box w B W K 104
  have hp := at_lt hW hK hv hs
  have h0 : (2 * (v : Int) + (s : Int)) * ((W + 3 * K : Nat) : Int) = (((2 * v + s) * (W + 3 * K) : Nat) : Int) := by simp
  have h1 : wrap64 ((2 * (v : Int) + (s : Int)) * ((W + 3 * K : Nat) : Int)) = (((2 * v + s) * (W + 3 * K) : Nat) : Int) := by rw [h0]; unfold wrap64; omega
  have E1 : Hid (((B + 1 + 4 * K : Nat) : Int) + (((2 * v + s) * (W + 3 * K) : Nat) : Int) = ((atN B W K v s : Nat) : Int)) := by show _ = _; unfold atN; omega
  have hX : B + 1 + 4 * K ≤ 16777216 := by omega
  have R := Lib.hid fun w1 => row_any B W K 4 w1 hB hK (by omega)
  have R2 := Lib.hid fun w1 => record_any B W K w1 hW hK
  generalize (2 * v + s) * (W + 3 * K) = P at *
  generalize W + 3 * K = Y at *
  generalize B + 1 + 4 * K = X at *
  clear hB hK hW h0
  go_enter Tryd.func67, Tryd.ntmps67
  go_wp2_with fail
  generalize hw0 : w.alloc (.cells #[.int .i64 B, .int .i64 W, .int .i64 K] 104) = w0 at *
  have HB := Lib.hid (show Below w.heap.size w w0 by rw [← hw0]; exact box1 _ _)
  clear hw0
  have k0 := cell_regrown F.c0
  have k1 := cell_regrown F.c1
  have k2 := cell_regrown F.c2
  have cA := fun d os => Calls.regrown_of (R.out (grow (redrawn w0 d) os))
  have cB := fun d os => Calls.regrown_of (R2.out (grow (redrawn w0 d) os))
  refine wp_region_quiet_below (by kernel_rfl) (by kernel_rfl) ?_
  repeat (go_big_quiet_step (first | exact cA _ _ | exact cB _ _))
  refine wpQuiet_nil ?_
  intro _ hw'
  obtain ⟨⟨dq, osq⟩, hw''⟩ := hw'
  subst hw''
  have B2 := Lib.hid (HB.out.trans ((below_regrown w0 dq osq).mono HB.out.size))
  generalize Sort.grow (redrawn w0 dq) osq = wg at *
  clear k0 k1 k2 cA cB
  go_wp2_with fail
  go_ret
  exact ⟨by rw [← E1.out]; rfl, B2.out⟩
theorem size8_any (B W K : Nat) (w : World) (hB : B ≤ 1048576) (hW : W ≤ 1048576) (hK : K ≤ 1048576) :
    Calls Tryd.prog 55 #[.agg #[.int .i64 B, .int .i64 W, .int .i64 K]] w fun e w' => e = .returned (.int .i64 ((atN B W K K 0 - B : Nat) : Int)) ∧ Below w.heap.size w w' := by
  have F := Fr.box w B W K 104
  have hp := at_lt hW hK hK (show 0 ≤ 1 by omega)
  have hq : B ≤ atN B W K K 0 ∧ atN B W K K 0 ≤ 8796118188032 := by unfold atN; omega
  have E1 : Hid (((atN B W K K 0 : Nat) : Int) - (B : Int) = ((atN B W K K 0 - B : Nat) : Int)) := by show _ = _; omega
  have R := Lib.hid fun w1 => at_any B W K K 0 w1 hB hW hK hK (by omega)
  clear hp
  generalize atN B W K K 0 = X at *
  clear hK hW
  go_enter Tryd.func55, Tryd.ntmps55
  go_wp2_with fail
  generalize hw0 : w.alloc (.cells #[.int .i64 B, .int .i64 W, .int .i64 K] 104) = w0 at *
  have HB := Lib.hid (show Below w.heap.size w w0 by rw [← hw0]; exact box1 _ _)
  clear hw0
  have k0 := cell_regrown F.c0
  have k1 := cell_regrown F.c1
  have k2 := cell_regrown F.c2
  have cA := fun d os => Calls.regrown_of (R.out (grow (redrawn w0 d) os))
  refine wp_region_quiet_below (by kernel_rfl) (by kernel_rfl) ?_
  repeat (go_big_quiet_step (first | exact cA _ _))
  refine wpQuiet_nil ?_
  intro _ hw'
  obtain ⟨⟨dq, osq⟩, hw''⟩ := hw'
  subst hw''
  have B2 := Lib.hid (HB.out.trans ((below_regrown w0 dq osq).mono HB.out.size))
  generalize Sort.grow (redrawn w0 dq) osq = wg at *
  clear k0 k1 k2 cA
  go_wp2_with fail
  go_ret
  exact ⟨by rw [← E1.out]; rfl, B2.out⟩

end Go.Proofs.YtchkgmknhndccaaDoor
