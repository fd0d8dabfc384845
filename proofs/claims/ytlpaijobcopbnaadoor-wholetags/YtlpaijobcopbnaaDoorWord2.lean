/-
  Contracts of package word's Of and To: the word of a reference, and back.
-/
import Derived.Test.YtlpaijobcopbnaaDoorWord1
namespace Go.Proofs.YtlpaijobcopbnaaDoor
open Go.RowKit

/-- The table of the three fields in its variable, as its initialiser lays it. -/
def RefAt (w : World) : Prop :=
  w.cell? ⟨0, 0, none⟩ = some (.int .i64 0) ∧ w.cell? ⟨0, 1, none⟩ = some (.int .i64 8) ∧
  w.cell? ⟨0, 2, none⟩ = some (.int .i64 8) ∧ w.cell? ⟨0, 3, none⟩ = some (.int .i64 8) ∧
  w.cell? ⟨0, 4, none⟩ = some (.int .i64 16) ∧ w.cell? ⟨0, 5, none⟩ = some (.int .i64 32)
theorem RefAt.lt {w : World} (h : RefAt w) : 0 < w.heap.size := World.block_lt_of_cell? w ⟨0, 0, none⟩ h.1
theorem RefAt.next {w w' : World} (h : RefAt w) (hb : Below w.heap.size w w') : RefAt w' := by
  have hl := h.lt
  obtain ⟨h0, h1, h2, h3, h4, h5⟩ := h
  exact ⟨(hb.cell (p := ⟨0, 0, none⟩) hl).trans h0, (hb.cell (p := ⟨0, 1, none⟩) hl).trans h1, (hb.cell (p := ⟨0, 2, none⟩) hl).trans h2, (hb.cell (p := ⟨0, 3, none⟩) hl).trans h3, (hb.cell (p := ⟨0, 4, none⟩) hl).trans h4, (hb.cell (p := ⟨0, 5, none⟩) hl).trans h5⟩

/-- An int, as uint64 has it. -/
def u64 (x : Int) : Nat := (x % 18446744073709551616).toNat
theorem u64_lt (x : Int) : u64 x < 18446744073709551616 := by unfold u64; omega
theorem u64_key (x : Int) : IntKind.u64.wrap x = ((u64 x : Nat) : Int) := by rw [IntKind.wrap_u64]; unfold u64; omega

/-- The bit that every reference's word has. -/
def mark : Nat := 9223372036854775808
theorem mark_lt : mark < 18446744073709551616 := by unfold mark; decide
def acc1N (x : Int) : Nat := Ma.putN mark (u64 x) 0 8
def acc2N (x y : Int) : Nat := Ma.putN (acc1N x) (u64 y) 8 8
def acc3N (x y z : Int) : Nat := Ma.putN (acc2N x y) (u64 z) 16 32
/-- The word behind k of the three numbers. -/
def ofAcc (x y z : Int) (k : Nat) : Nat := if k = 0 then mark else if k = 1 then acc1N x else if k = 2 then acc2N x y else acc3N x y z
theorem acc0 (x y z : Int) : ofAcc x y z 0 = mark := if_pos rfl
theorem acc1 (x y z : Int) : ofAcc x y z 1 = Ma.putN (ofAcc x y z 0) (u64 x) 0 8 := by rw [acc0]; rfl
theorem acc2 (x y z : Int) : ofAcc x y z 2 = Ma.putN (ofAcc x y z 1) (u64 y) 8 8 := rfl
theorem acc3 (x y z : Int) : ofAcc x y z 3 = Ma.putN (ofAcc x y z 2) (u64 z) 16 32 := rfl

/-- The word of a reference; 0, if one of the three has no room. -/
def ofR (x y z : Int) : Nat := if u64 x < 2 ^ 8 ∧ u64 y < 2 ^ 8 ∧ u64 z < 2 ^ 32 then ofAcc x y z 3 else 0
def OfSays (x y z : Int) (w : World) (e : Ending) (w' : World) : Prop := e = .returned (.int .u64 (ofR x y z : Nat)) ∧ Below w.heap.size w w'

theorem acc0_lt (x y z : Int) : ofAcc x y z 0 < 18446744073709551616 := by rw [acc0]; exact mark_lt
theorem acc0_val (x y z : Int) : Value.int .u64 9223372036854775808 = .int .u64 (ofAcc x y z 0 : Nat) := by rw [acc0]; rfl
theorem acc1_lt (x y z : Int) (h : u64 x < 2 ^ 8) : ofAcc x y z 1 < 18446744073709551616 := by rw [acc1]; exact Ma.putN_lt (acc0_lt x y z) h (by decide)
theorem acc2_lt (x y z : Int) (h : u64 x < 2 ^ 8) (h2 : u64 y < 2 ^ 8) : ofAcc x y z 2 < 18446744073709551616 := by rw [acc2]; exact Ma.putN_lt (acc1_lt x y z h) h2 (by decide)

theorem ok08 : okF ((0 : Nat) : Int) ((8 : Nat) : Int) := by unfold okF; decide
theorem ok88 : okF ((8 : Nat) : Int) ((8 : Nat) : Int) := by unfold okF; decide
theorem ok1632 : okF ((16 : Nat) : Int) ((32 : Nat) : Int) := by unfold okF; decide

theorem put0_yes (m n : Nat) (w : World) (hm : m < 18446744073709551616) (hn : n < 2 ^ 8) : Calls Tryd.prog 27 #[.agg #[.int .i64 0, .int .i64 8], .int .u64 m, .int .u64 n] w fun e w' => e = .returned (.tuple #[.int .u64 (Ma.putN m n 0 8 : Nat), .bool true]) ∧ Below w.heap.size w w' := put_yes m n 0 8 w hm (by unfold okF; decide) hn
theorem put0_big (m n : Nat) (w : World) (hn : ¬ n < 2 ^ 8) : Calls Tryd.prog 27 #[.agg #[.int .i64 0, .int .i64 8], .int .u64 m, .int .u64 n] w fun e w' => e = .returned (.tuple #[.int .u64 m, .bool false]) ∧ Below w.heap.size w w' := put_big m n 0 8 w (by unfold okF; decide) (Nat.lt_of_not_le fun h => hn ((Ma.fits_iff n 8).1 h))
theorem get0_yes (m : Nat) (w : World) (hm : m < 18446744073709551616) : Calls Tryd.prog 33 #[.agg #[.int .i64 0, .int .i64 8], .int .u64 m] w fun e w' => e = .returned (.int .u64 (Ma.getN m 0 8 : Nat)) ∧ Below w.heap.size w w' := get_yes m 0 8 w hm (by unfold okF; decide)
theorem put8_yes (m n : Nat) (w : World) (hm : m < 18446744073709551616) (hn : n < 2 ^ 8) : Calls Tryd.prog 27 #[.agg #[.int .i64 8, .int .i64 8], .int .u64 m, .int .u64 n] w fun e w' => e = .returned (.tuple #[.int .u64 (Ma.putN m n 8 8 : Nat), .bool true]) ∧ Below w.heap.size w w' := put_yes m n 8 8 w hm (by unfold okF; decide) hn
theorem put8_big (m n : Nat) (w : World) (hn : ¬ n < 2 ^ 8) : Calls Tryd.prog 27 #[.agg #[.int .i64 8, .int .i64 8], .int .u64 m, .int .u64 n] w fun e w' => e = .returned (.tuple #[.int .u64 m, .bool false]) ∧ Below w.heap.size w w' := put_big m n 8 8 w (by unfold okF; decide) (Nat.lt_of_not_le fun h => hn ((Ma.fits_iff n 8).1 h))
theorem get8_yes (m : Nat) (w : World) (hm : m < 18446744073709551616) : Calls Tryd.prog 33 #[.agg #[.int .i64 8, .int .i64 8], .int .u64 m] w fun e w' => e = .returned (.int .u64 (Ma.getN m 8 8 : Nat)) ∧ Below w.heap.size w w' := get_yes m 8 8 w hm (by unfold okF; decide)
theorem put16_yes (m n : Nat) (w : World) (hm : m < 18446744073709551616) (hn : n < 2 ^ 32) : Calls Tryd.prog 27 #[.agg #[.int .i64 16, .int .i64 32], .int .u64 m, .int .u64 n] w fun e w' => e = .returned (.tuple #[.int .u64 (Ma.putN m n 16 32 : Nat), .bool true]) ∧ Below w.heap.size w w' := put_yes m n 16 32 w hm (by unfold okF; decide) hn
theorem put16_big (m n : Nat) (w : World) (hn : ¬ n < 2 ^ 32) : Calls Tryd.prog 27 #[.agg #[.int .i64 16, .int .i64 32], .int .u64 m, .int .u64 n] w fun e w' => e = .returned (.tuple #[.int .u64 m, .bool false]) ∧ Below w.heap.size w w' := put_big m n 16 32 w (by unfold okF; decide) (Nat.lt_of_not_le fun h => hn ((Ma.fits_iff n 32).1 h))
theorem get16_yes (m : Nat) (w : World) (hm : m < 18446744073709551616) : Calls Tryd.prog 33 #[.agg #[.int .i64 16, .int .i64 32], .int .u64 m] w fun e w' => e = .returned (.int .u64 (Ma.getN m 16 32 : Nat)) ∧ Below w.heap.size w w' := get_yes m 16 32 w hm (by unfold okF; decide)

theorem below_next {w w1 w2 : World} (h : Below w.heap.size w w1) (h2 : Below w1.heap.size w1 w2) : Below w.heap.size w w2 := h.trans (h2.mono h.size)

set_option maxHeartbeats 4000000 in
theorem of_any (x y z : Int) (w : World) (hR : Hid (RefAt w)) :
    Calls Tryd.prog 12 #[.agg #[.int .i64 x, .int .i64 y, .int .i64 z]] w (OfSays x y z w) := by
  have i0 : ∀ w, (Instr.index 60 (.agg #[.int .i64 x, .int .i64 y, .int .i64 z]) (.int .i64 0)).run Tryd.prog w = .ok (.int .i64 x) w := fun _ => by kernel_rfl
  have i1 : ∀ w, (Instr.index 60 (.agg #[.int .i64 x, .int .i64 y, .int .i64 z]) (.int .i64 1)).run Tryd.prog w = .ok (.int .i64 y) w := fun _ => by kernel_rfl
  have i2 : ∀ w, (Instr.index 60 (.agg #[.int .i64 x, .int .i64 y, .int .i64 z]) (.int .i64 2)).run Tryd.prog w = .ok (.int .i64 z) w := fun _ => by kernel_rfl
  have ux := u64_key x
  have uy := u64_key y
  have uz := u64_key z
  have HE : Hid (¬ (u64 x < 2 ^ 8 ∧ u64 y < 2 ^ 8 ∧ u64 z < 2 ^ 32) → ofR x y z = 0) := fun h => if_neg h
  have HP : Hid ((u64 x < 2 ^ 8 ∧ u64 y < 2 ^ 8 ∧ u64 z < 2 ^ 32) → ofR x y z = ofAcc x y z 3) := fun h => if_pos h
  go_enter Tryd.func12, Tryd.ntmps12
  go_wp2_with fail
  go_loopw [3, 15] (fun r t wr => ∃ k : Nat, k ≤ 3 ∧ t = .int .i64 k ∧ r = .int .u64 (ofAcc x y z k : Nat) ∧ (1 ≤ k → u64 x < 2 ^ 8) ∧ (2 ≤ k → u64 y < 2 ^ 8) ∧ (3 ≤ k → u64 z < 2 ^ 32) ∧ Below w.heap.size w wr) (fun _ t _ => 3 - (intOf t).toNat)
  case atStart => exact ⟨0, by omega, rfl, acc0_val x y z, fun h => by omega, fun h => by omega, fun h => by omega, belowBox _ _⟩
  case round =>
    obtain ⟨k, hk, rfl, rfl, f0, f1, f2, hbw⟩ := hrel
    have hRw := hR.out.next hbw
    obtain ⟨c0, c1, c2, c3, c4, c5⟩ := hRw
    have HBW := Lib.hid hbw
    clear hbw
    rcases (by omega : k = 0 ∨ k = 1 ∨ k = 2 ∨ k = 3) with rfl | rfl | rfl | rfl
    · clear f0 f1 f2
      have hacc : ofAcc x y z 0 < 18446744073709551616 := acc0_lt x y z
      have HA := Lib.hid (acc1 x y z)
      by_cases hf : u64 x < 2 ^ 8
      · have HF := Lib.hid hf
        clear hf
        go_wp2_with fail
        refine (put0_yes _ _ _ hacc HF.out).mono ?_
        rintro e w1 ⟨rfl, hb⟩
        have HB := Lib.hid (below_next HBW.out hb)
        clear hb
        rw [← HA.out]
        go_wp2_with fail
        go_roundw
        case rel => exact ⟨1, by omega, by go_num, rfl, fun _ => HF.out, fun h => by omega, fun h => by omega, HB.out⟩
        case measure => simp [intOf]
      · have HF := Lib.hid (HE.out (fun h => hf h.1))
        have HN := Lib.hid hf
        clear hf
        go_wp2_with fail
        refine (put0_big _ _ _ HN.out).mono ?_
        rintro e w1 ⟨rfl, hb⟩
        have HB := Lib.hid (below_next HBW.out hb)
        clear hb
        go_wp2_with fail
        go_ret
        exact ⟨by rw [HF.out]; rfl, HB.out⟩
    · have g0 := f0 (by omega)
      clear f0 f1 f2
      have hacc : ofAcc x y z 1 < 18446744073709551616 := acc1_lt x y z g0
      have G0 := Lib.hid g0
      clear g0
      have HA := Lib.hid (acc2 x y z)
      by_cases hf : u64 y < 2 ^ 8
      · have HF := Lib.hid hf
        clear hf
        go_wp2_with fail
        refine (put8_yes _ _ _ hacc HF.out).mono ?_
        rintro e w1 ⟨rfl, hb⟩
        have HB := Lib.hid (below_next HBW.out hb)
        clear hb
        rw [← HA.out]
        go_wp2_with fail
        go_roundw
        case rel => exact ⟨2, by omega, by go_num, rfl, fun _ => G0.out, fun _ => HF.out, fun h => by omega, HB.out⟩
        case measure => simp [intOf]
      · have HF := Lib.hid (HE.out (fun h => hf h.2.1))
        have HN := Lib.hid hf
        clear hf
        go_wp2_with fail
        refine (put8_big _ _ _ HN.out).mono ?_
        rintro e w1 ⟨rfl, hb⟩
        have HB := Lib.hid (below_next HBW.out hb)
        clear hb
        go_wp2_with fail
        go_ret
        exact ⟨by rw [HF.out]; rfl, HB.out⟩
    · have g0 := f0 (by omega)
      have g1 := f1 (by omega)
      clear f0 f1 f2
      have hacc : ofAcc x y z 2 < 18446744073709551616 := acc2_lt x y z g0 g1
      have G0 := Lib.hid g0
      have G1 := Lib.hid g1
      clear g0 g1
      have HA := Lib.hid (acc3 x y z)
      by_cases hf : u64 z < 2 ^ 32
      · have HF := Lib.hid hf
        clear hf
        go_wp2_with fail
        refine (put16_yes _ _ _ hacc HF.out).mono ?_
        rintro e w1 ⟨rfl, hb⟩
        have HB := Lib.hid (below_next HBW.out hb)
        clear hb
        rw [← HA.out]
        go_wp2_with fail
        go_roundw
        case rel => exact ⟨3, by omega, by go_num, rfl, fun _ => G0.out, fun _ => G1.out, fun _ => HF.out, HB.out⟩
        case measure => simp [intOf]
      · have HF := Lib.hid (HE.out (fun h => hf h.2.2))
        have HN := Lib.hid hf
        clear hf
        go_wp2_with fail
        refine (put16_big _ _ _ HN.out).mono ?_
        rintro e w1 ⟨rfl, hb⟩
        have HB := Lib.hid (below_next HBW.out hb)
        clear hb
        go_wp2_with fail
        go_ret
        exact ⟨by rw [HF.out]; rfl, HB.out⟩
    · have HF := Lib.hid (HP.out ⟨f0 (by omega), f1 (by omega), f2 (by omega)⟩)
      clear f0 f1 f2
      go_wp2_with fail
      go_ret
      exact ⟨by rw [HF.out]; rfl, HBW.out⟩

end Go.Proofs.YtlpaijobcopbnaaDoor
