/-
  Contracts of mask's Run and Least.
-/
import Derived.Test.YtkogeeaoppkhkaaDoorMask2
import Derived.Test.YtkogeeaoppkhkaaDoorMath3
namespace Go.Proofs.YtkogeeaoppkhkaaDoor
open Go.RowKit

set_option maxHeartbeats 400000 in
theorem run_few (m : Nat) (n : Int) (w : World) (hn : n < 1) :
    Calls Tryd.prog 83 #[.int .u64 m, .int .i64 n] w fun e w' => e = .returned (.tuple #[.int .i64 0, .bool false]) ∧ w = w' := by
  go_enter Tryd.func83, Tryd.ntmps83
  go_wp2
  go_ret2
  exact ⟨rfl, rfl⟩

set_option maxHeartbeats 400000 in
theorem run_many (m : Nat) (n : Int) (w : World) (hn : 64 < n) (hn2 : n < 9223372036854775808) :
    Calls Tryd.prog 83 #[.int .u64 m, .int .i64 n] w fun e w' => e = .returned (.tuple #[.int .i64 0, .bool false]) ∧ w = w' := by
  have h1 : ¬ n < 1 := by omega
  go_enter Tryd.func83, Tryd.ntmps83
  go_wp2_with (go_at_call 42; refine (low_big _ _ (by omega)).mono ?_; rintro e w' ⟨rfl, rfl⟩)
  go_loop [7] (fun t => t = .int .i64 0) (fun _ => 0)
  case atStart => rfl
  case round =>
    subst hrel
    have h2 : ¬ (0 : Int) ≤ 64 - n := by omega
    go_wp2
    go_ret2
    exact ⟨rfl, rfl⟩

set_option maxHeartbeats 400000 in
theorem run_found (m n a : Nat) (w : World) (hm : m < 18446744073709551616) (hn : 1 ≤ n) (ha : a + n ≤ 64) (hrow : Ma.isRow m a n = true) (hno : Hid (∀ k, k < a → Ma.isRow m k n = false)) :
    Calls Tryd.prog 83 #[.int .u64 m, .int .i64 n] w fun e w' => e = .returned (.tuple #[.int .i64 a, .bool true]) ∧ w = w' := by
  have h1 : ¬ (n : Int) < 1 := by omega
  have HR := Lib.hid hrow
  clear hrow
  go_enter Tryd.func83, Tryd.ntmps83
  go_wp2_with (go_at_call 42; refine (low_yes _ _ (by omega) (by omega)).mono ?_; rintro e w' ⟨rfl, rfl⟩)
  go_loop [7] (fun t => ∃ k : Nat, k ≤ a ∧ t = .int .i64 k) (fun t => a - (intOf t).toNat)
  case atStart => exact ⟨0, Nat.zero_le _, rfl⟩
  case round =>
    obtain ⟨k, hk, rfl⟩ := hrel
    have h2 : (k : Int) ≤ 64 - (n : Int) := by omega
    have hkey := Ma.row_key m k n hm (by omega)
    by_cases hlt : k < a
    · rw [hno.out k hlt] at hkey
      go_wp2
      go_round
      case rel => exact ⟨k + 1, by omega, by go_num⟩
      case measure => simp [intOf]; omega
    · obtain rfl : k = a := by omega
      rw [HR.out] at hkey
      go_wp2
      go_ret2
      exact ⟨rfl, rfl⟩

set_option maxHeartbeats 400000 in
theorem run_none (m n : Nat) (w : World) (hm : m < 18446744073709551616) (hn : 1 ≤ n) (hn2 : n ≤ 64) (hno : Hid (∀ k, k + n ≤ 64 → Ma.isRow m k n = false)) :
    Calls Tryd.prog 83 #[.int .u64 m, .int .i64 n] w fun e w' => e = .returned (.tuple #[.int .i64 0, .bool false]) ∧ w = w' := by
  have h1 : ¬ (n : Int) < 1 := by omega
  go_enter Tryd.func83, Tryd.ntmps83
  go_wp2_with (go_at_call 42; refine (low_yes _ _ (by omega) (by omega)).mono ?_; rintro e w' ⟨rfl, rfl⟩)
  go_loop [7] (fun t => ∃ k : Nat, k ≤ 65 - n ∧ t = .int .i64 k) (fun t => 65 - n - (intOf t).toNat)
  case atStart => exact ⟨0, Nat.zero_le _, rfl⟩
  case round =>
    obtain ⟨k, hk, rfl⟩ := hrel
    by_cases hlt : k + n ≤ 64
    · have h2 : (k : Int) ≤ 64 - (n : Int) := by omega
      have hkey := Ma.row_key m k n hm (by omega)
      rw [hno.out k hlt] at hkey
      go_wp2
      go_round
      case rel => exact ⟨k + 1, by omega, by go_num⟩
      case measure => simp [intOf]; omega
    · have h2 : ¬ (k : Int) ≤ 64 - (n : Int) := by omega
      go_wp2
      go_ret2
      exact ⟨rfl, rfl⟩

end Go.Proofs.YtkogeeaoppkhkaaDoor
