/-
  Contracts of package conf's bounds: Record, Attempt, Call, State.
-/
import Derived.Test.YtnjgajkcoahefaaProg
import Derived.WalkKit
import Derived.WalkSpells
import Derived.Lib.Hide
import Derived.OpenShut
import Derived.Deep.RegionHeld3
import Derived.BigQuiet
namespace Go.Proofs.Ytnjgajkcoahefaa
open Go.RowKit

theorem below_alloc (w : World) (o : Obj) : Below w.heap.size w (w.alloc o) := (Below.refl _ _).alloc (Nat.le_refl _) o
theorem cret_int {k : IntKind} {a b : Int} (h : a = b) : Ending.returned (.int k a) = .returned (.int k b) := by rw [h]

def recI (a b : Int) : Int := a + 3 * b
def attI (a b : Int) : Int := 2 * (a + 3 * b) + 4 * b + 6
def callI (a b t : Int) : Int := attI a b * (t + 2) + 6
theorem att_bounds {a b : Int} (h0 : 0 ≤ a) (h1 : a ≤ 1048577) (h2 : 0 ≤ b) (h3 : b ≤ 1048577) : 6 ≤ attI a b ∧ attI a b ≤ 20000000 := by unfold attI; omega
theorem mul_bounds {A t : Int} (h0 : 0 ≤ A) (h1 : A ≤ 20000000) (h2 : 0 ≤ t) (h3 : t ≤ 1048577) : 0 ≤ A * (t + 2) ∧ A * (t + 2) ≤ 41943040000000 := by
  have h4 : 0 ≤ t + 2 := by omega
  refine ⟨Int.mul_nonneg h0 h4, ?_⟩
  calc A * (t + 2) ≤ 20000000 * (t + 2) := Int.mul_le_mul_of_nonneg_right h1 h4
    _ ≤ 41943040000000 := by omega

theorem record_any (a b : Int) (w : World) (h0 : 0 ≤ a) (h1 : a ≤ 1048577) (h2 : 0 ≤ b) (h3 : b ≤ 1048577) :
    Calls Try.prog 38 #[.int .i64 a, .int .i64 b] w fun e w' => e = .returned (.int .i64 (recI a b)) ∧ w = w' := by
  unfold recI
  go_enter Try.func38, Try.ntmps38
  go_wp2
  go_ret
  exact ⟨rfl, rfl⟩
theorem attempt_any (a b : Int) (w : World) (h0 : 0 ≤ a) (h1 : a ≤ 1048577) (h2 : 0 ≤ b) (h3 : b ≤ 1048577) :
    Calls Try.prog 36 #[.int .i64 a, .int .i64 b] w fun e w' => e = .returned (.int .i64 (attI a b)) ∧ w = w' := by
  unfold attI
  go_enter Try.func36, Try.ntmps36
  go_wp2_with fail
  refine (record_any a b _ h0 h1 h2 h3).mono ?_
  rintro e w' ⟨rfl, rfl⟩
  unfold recI
  go_wp2
  go_ret
  exact ⟨rfl, rfl⟩
theorem call_any (a b t : Int) (w : World) (h0 : 0 ≤ a) (h1 : a ≤ 1048577) (h2 : 0 ≤ b) (h3 : b ≤ 1048577) (h4 : 0 ≤ t) (h5 : t ≤ 1048577) :
    Calls Try.prog 34 #[.int .i64 a, .int .i64 b, .int .i64 t] w fun e w' => e = .returned (.int .i64 (callI a b t)) ∧ w = w' := by
  unfold callI
  obtain ⟨b1, b2⟩ := att_bounds h0 h1 h2 h3
  obtain ⟨b3, b4⟩ := mul_bounds (by omega) b2 h4 h5
  go_enter Try.func34, Try.ntmps34
  go_wp2_with fail
  refine (attempt_any a b _ h0 h1 h2 h3).mono ?_
  rintro e w' ⟨rfl, rfl⟩
  generalize hA : attI a b = A at *
  have HA := Lib.hid hA
  clear hA
  go_wp2
  go_ret
  exact ⟨cret_int (by rw [HA.out]), rfl⟩

/-- A system's cells. -/
def cfg (W S B T : Int) (cl : Value) : Value := .agg #[.int .i64 W, .int .i64 S, .int .i64 B, .int .i64 T, cl]
theorem state_any (W S B T : Int) (cl : Value) (w : World) (h0 : 0 ≤ S) (h1 : S ≤ 1048577) :
    Calls Try.prog 35 #[.agg #[.int .i64 W, .int .i64 S, .int .i64 B, .int .i64 T, cl]] w fun e w' => e = .returned (.int .i64 (2 * S)) ∧ Below w.heap.size w w' := by
  have HB := Lib.hid (below_alloc w (.cells #[.int .i64 W, .int .i64 S, .int .i64 B, .int .i64 T, cl] 48))
  go_enter Try.func35, Try.ntmps35
  go_wp2
  go_ret
  exact ⟨rfl, HB.out⟩

def boundI (W S T : Int) : Int := callI (2 * S) W T + 2
/-- The five cells of a system in a block. -/
def Cfg5 (w : World) (N : Nat) (W S B T : Int) (cl : Value) : Prop := w.heap[N]? = some (.cells #[.int .i64 W, .int .i64 S, .int .i64 B, .int .i64 T, cl] 48 (0, 0))
theorem cfg_lt {w : World} {N : Nat} {W S B T : Int} {cl : Value} (h : Cfg5 w N W S B T cl) : N < w.heap.size := (Array.getElem?_eq_some_iff.1 h).1
theorem cfg_next {w w' : World} {N : Nat} {W S B T : Int} {cl : Value} (h : Cfg5 w N W S B T cl) (hb : Below w.heap.size w w') : Cfg5 w' N W S B T cl := (hb.block N (cfg_lt h)).trans h
theorem cfg_new (w : World) (W S B T : Int) (cl : Value) : Cfg5 (w.alloc (.cells #[.int .i64 W, .int .i64 S, .int .i64 B, .int .i64 T, cl] 48)) w.heap.size W S B T cl := by
  show (w.heap.push _)[w.heap.size]? = _
  rw [Array.getElem?_push, if_pos rfl]
theorem cfg_cells {w : World} {N : Nat} {W S B T : Int} {cl : Value} (h : Cfg5 w N W S B T cl) : w.cell? ⟨N, 0, none⟩ = some (.int .i64 W) ∧ w.cell? ⟨N, 1, none⟩ = some (.int .i64 S) ∧ w.cell? ⟨N, 2, none⟩ = some (.int .i64 B) ∧ w.cell? ⟨N, 3, none⟩ = some (.int .i64 T) ∧ w.cell? ⟨N, 4, none⟩ = some cl := by
  unfold Cfg5 at h
  refine ⟨?_, ?_, ?_, ?_, ?_⟩ <;> simp [World.cell?, h]

theorem below_drew2 {N : Nat} {w w1 w2 : World} (h : Below N w w1) (hN : N ≤ w1.drew.heap.size) (h2 : Below w1.drew.heap.size w1.drew w2) : Below N w w2 :=
  h.trans ⟨h2.os, h2.tape, h2.output, h2.size, fun k hk => h2.block k (Nat.lt_of_lt_of_le hk hN)⟩

set_option maxHeartbeats 1000000 in
theorem bound_any (W S B T : Int) (cl : Value) (w : World) (h0 : 0 ≤ S) (h1 : S ≤ 1000) (h2 : 0 ≤ W) (h3 : W ≤ 1000) (h4 : 0 ≤ T) (h5 : T ≤ 1000) :
    Calls Try.prog 32 #[.agg #[.int .i64 W, .int .i64 S, .int .i64 B, .int .i64 T, cl]] w fun e w' => e = .returned (.int .i64 (boundI W S T)) ∧ Below w.heap.size w w' := by
  unfold boundI
  have C0 := cfg_new w W S B T cl
  have HB := Lib.hid (below_alloc w (.cells #[.int .i64 W, .int .i64 S, .int .i64 B, .int .i64 T, cl] 48))
  obtain ⟨b1, b2⟩ := att_bounds (show 0 ≤ 2 * S by omega) (show 2 * S ≤ 1048577 by omega) h2 (show W ≤ 1048577 by omega)
  obtain ⟨b3, b4⟩ := mul_bounds (t := T) (by omega) b2 h4 (by omega)
  have HC : Hid (callI (2 * S) W T = attI (2 * S) W * (T + 2) + 6) := rfl
  have b5 : 0 ≤ callI (2 * S) W T := by rw [HC.out]; omega
  have b6 : callI (2 * S) W T ≤ 50000000000000 := by rw [HC.out]; omega
  have HCA := Lib.hid (fun w => call_any (2 * S) W T w (by omega) (by omega) h2 (by omega) h4 (by omega))
  have HSA := Lib.hid (fun w => state_any W S B T cl w h0 (by omega))
  clear b1 b2 b3 b4 HC
  generalize callI (2 * S) W T = R at *
  go_enter Try.func32, Try.ntmps32
  go_wp2_with fail
  generalize w.alloc (.cells #[.int .i64 W, .int .i64 S, .int .i64 B, .int .i64 T, cl] 48) = w0 at *
  generalize hN : w.heap.size = N at *
  obtain ⟨c0, c1, c2, c3, c4⟩ := cfg_cells C0
  have lN : N < w0.drew.heap.size := cfg_lt C0
  go_region_held3 (fun w' => w'.cell? ⟨N, 0, none⟩ = some (.int .i64 W) ∧ w'.cell? ⟨N, 1, none⟩ = some (.int .i64 S) ∧ w'.cell? ⟨N, 2, none⟩ = some (.int .i64 B) ∧ w'.cell? ⟨N, 3, none⟩ = some (.int .i64 T) ∧ w'.cell? ⟨N, 4, none⟩ = some cl) (first | (go_keep; done) | with_reducible exact ⟨s0, s1, s2, s3, s4⟩) ((first | (go_at_call 35; refine (HSA.out _).mono ?_; rintro e w3 ⟨rfl, hb3⟩; have s0 := (hb3.cell (p := ⟨N, 0, none⟩) lN).trans c0; have s1 := (hb3.cell (p := ⟨N, 1, none⟩) lN).trans c1; have s2 := (hb3.cell (p := ⟨N, 2, none⟩) lN).trans c2; have s3 := (hb3.cell (p := ⟨N, 3, none⟩) lN).trans c3; have s4 := (hb3.cell (p := ⟨N, 4, none⟩) lN).trans c4) | (go_at_call 34; refine (HCA.out _).mono ?_; rintro e w4 ⟨rfl, rfl⟩)))
  go_wp2_with fail
  go_ret
  exact ⟨cret_int (by rw [IntKind.wrap_i64]; omega), by rw [hN]; exact below_drew2 HB.out (Nat.le_of_lt lN) hb3⟩

end Go.Proofs.Ytnjgajkcoahefaa
