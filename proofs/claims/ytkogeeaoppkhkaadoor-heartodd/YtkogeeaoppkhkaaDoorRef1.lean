/-
  Contracts of the document's own answers of layers 1 and 2: Bit, Power, Has.
-/
import Derived.Test.YtkogeeaoppkhkaaDoorMask1
namespace Go.Proofs.YtkogeeaoppkhkaaDoor
open Go.RowKit

theorem shr_step (x k : Nat) : (x >>> k) / 2 = x >>> (k + 1) := (Nat.shiftRight_succ x k).symm
theorem bit_last (x k : Nat) : (((x >>> k : Nat) : Int) % 2 == 1) = x.testBit k := by
  have h : x.testBit k = (x >>> k).testBit 0 := by rw [Nat.testBit_shiftRight]; rfl
  rw [h, Nat.testBit_zero]
  generalize x >>> k = y
  rw [Bool.eq_iff_iff]
  simp only [beq_iff_eq, decide_eq_true_eq]
  omega

set_option maxHeartbeats 400000 in
theorem bit_any (x : Nat) (n : Int) (w : World) (hx : x < 18446744073709551616) (h0 : 0 ≤ n) (hn : n < 9223372036854775807) :
    Calls Tryd.prog 91 #[.int .u64 x, .int .i64 n] w fun e w' => e = .returned (.bool (x.testBit n.toNat)) ∧ w = w' := by
  obtain ⟨m, rfl⟩ := Int.eq_ofNat_of_zero_le h0
  go_enter Tryd.func91, Tryd.ntmps91
  go_wp2
  go_loop [0, 5] (fun y i => ∃ k : Nat, k ≤ m ∧ i = .int .i64 k ∧ y = .int .u64 (x >>> k : Nat)) (fun _ i => m - (intOf i).toNat)
  case atStart => exact ⟨0, Nat.zero_le _, rfl, rfl⟩
  case round =>
    obtain ⟨k, hk, rfl, rfl⟩ := hrel
    have hl := Ma.shr_lt k hx
    have HS := Lib.hid (shr_step x k)
    have HB := Lib.hid (bit_last x k)
    generalize hy : x >>> k = y at *
    have HY := Lib.hid hy
    clear hy
    by_cases hlt : k < m
    · go_wp2
      go_round
      case rel => exact ⟨k + 1, by omega, by go_num, by rw [← HS.out]; go_num⟩
      case measure => simp [intOf]; omega
    · obtain rfl : k = m := by omega
      go_wp2
      go_ret
      exact ⟨ret_bool HB.out, rfl⟩

theorem pow_step (k : Nat) (h : k < 63) : IntKind.u64.wrap (((2 ^ k : Nat) : Int) * 2) = ((2 ^ (k + 1) : Nat) : Int) := by
  have := Ma.pow_lt (show k + 1 < 64 by omega)
  rw [Nat.pow_succ] at this ⊢
  rw [IntKind.wrap_u64]
  generalize 2 ^ k = q at *
  omega

set_option maxHeartbeats 400000 in
theorem power_any (n : Int) (w : World) (h0 : 0 ≤ n) (hn : n < 64) :
    Calls Tryd.prog 98 #[.int .i64 n] w fun e w' => e = .returned (.int .u64 (2 ^ n.toNat : Nat)) ∧ w = w' := by
  obtain ⟨m, rfl⟩ := Int.eq_ofNat_of_zero_le h0
  go_enter Tryd.func98, Tryd.ntmps98
  go_wp2
  go_loop [3, 4] (fun p i => ∃ k : Nat, k ≤ m ∧ i = .int .i64 k ∧ p = .int .u64 (2 ^ k : Nat)) (fun _ i => m - (intOf i).toNat)
  case atStart => exact ⟨0, Nat.zero_le _, rfl, rfl⟩
  case round =>
    obtain ⟨k, hk, rfl, rfl⟩ := hrel
    by_cases hlt : k < m
    · have HP := Lib.hid (pow_step k (by omega))
      generalize hy : 2 ^ k = y at *
      have HY := Lib.hid hy
      clear hy
      go_wp2
      go_round
      case rel => exact ⟨k + 1, by omega, by go_num, by rw [← HP.out]⟩
      case measure => simp [intOf]; omega
    · obtain rfl : k = m := by omega
      go_wp2
      go_ret
      exact ⟨rfl, rfl⟩

set_option maxHeartbeats 400000 in
theorem rhas_yes (m : Nat) (n : Int) (w : World) (hm : m < 18446744073709551616) (h0 : 0 ≤ n) (h1 : n < 64) :
    Calls Tryd.prog 74 #[.int .u64 m, .int .i64 n] w fun e w' => e = .returned (.bool (m.testBit n.toNat)) ∧ w = w' := by
  have h2 : n ≤ 63 := by omega
  go_enter Tryd.func74, Tryd.ntmps74
  go_wp2_with (go_at_call 91; refine (bit_any _ _ _ hm h0 (by omega)).mono ?_; rintro e w' ⟨rfl, rfl⟩)
  go_ret
  exact ⟨rfl, rfl⟩

set_option maxHeartbeats 400000 in
theorem rhas_no (m : Nat) (n : Int) (w : World) (h : n < 0 ∨ 64 ≤ n) :
    Calls Tryd.prog 74 #[.int .u64 m, .int .i64 n] w fun e w' => e = .returned (.bool false) ∧ w = w' := by
  rcases h with h | h
  · have h' : ¬ 0 ≤ n := by omega
    go_enter Tryd.func74, Tryd.ntmps74
    go_wp2
    go_ret
    exact ⟨rfl, rfl⟩
  · have h' : ¬ n ≤ 63 := by omega
    have h2 : 0 ≤ n := by omega
    go_enter Tryd.func74, Tryd.ntmps74
    go_wp2
    go_ret
    exact ⟨rfl, rfl⟩

end Go.Proofs.YtkogeeaoppkhkaaDoor
