/-
  Contracts of package mask's small functions: can, Low, Has, With, Without.
-/
import Derived.Test.YtkogeeaoppkhkaaDoorProg
import Derived.Test.YtkogeeaoppkhkaaDoorMath1
import Derived.WalkKit
import Derived.WalkSpells
import Derived.Lib.Hide
namespace Go.Proofs.YtkogeeaoppkhkaaDoor
open Go.RowKit

theorem ret_bool {a b : Bool} (h : a = b) : Ending.returned (.bool a) = .returned (.bool b) := by rw [h]
theorem ret_int {k : IntKind} {a b : Int} (h : a = b) : Ending.returned (.int k a) = .returned (.int k b) := by rw [h]

set_option maxHeartbeats 400000 in
theorem can_yes (n : Int) (w : World) (h0 : 0 ≤ n) (h1 : n < 64) :
    Calls Tryd.prog 71 #[.int .i64 n] w fun e w' => e = .returned (.bool true) ∧ w = w' := by
  go_enter Tryd.func71, Tryd.ntmps71
  go_wp2
  go_ret
  exact ⟨rfl, rfl⟩

set_option maxHeartbeats 400000 in
theorem can_no (n : Int) (w : World) (h : n < 0 ∨ 64 ≤ n) :
    Calls Tryd.prog 71 #[.int .i64 n] w fun e w' => e = .returned (.bool false) ∧ w = w' := by
  rcases h with h | h
  · have h' : ¬ 0 ≤ n := by omega
    go_enter Tryd.func71, Tryd.ntmps71
    go_wp2
    go_ret
    exact ⟨rfl, rfl⟩
  · have h' : ¬ n < 64 := by omega
    have h2 : 0 ≤ n := by omega
    go_enter Tryd.func71, Tryd.ntmps71
    go_wp2
    go_ret
    exact ⟨rfl, rfl⟩

set_option maxHeartbeats 400000 in
theorem has_yes (m : Nat) (n : Int) (w : World) (hm : m < 18446744073709551616) (h0 : 0 ≤ n) (h1 : n < 64) :
    Calls Tryd.prog 41 #[.int .u64 m, .int .i64 n] w fun e w' => e = .returned (.bool (m.testBit n.toNat)) ∧ w = w' := by
  obtain ⟨k, rfl⟩ := Int.eq_ofNat_of_zero_le h0
  go_enter Tryd.func41, Tryd.ntmps41
  go_wp2_with (go_at_call 71; refine (can_yes _ _ (by omega) (by omega)).mono ?_; rintro e w' ⟨rfl, rfl⟩)
  go_ret
  exact ⟨ret_bool (Ma.has_key m _ hm), rfl⟩

set_option maxHeartbeats 400000 in
theorem has_no (m : Nat) (n : Int) (w : World) (h : n < 0 ∨ 64 ≤ n) :
    Calls Tryd.prog 41 #[.int .u64 m, .int .i64 n] w fun e w' => e = .returned (.bool false) ∧ w = w' := by
  go_enter Tryd.func41, Tryd.ntmps41
  go_wp2_with (go_at_call 71; refine (can_no _ _ h).mono ?_; rintro e w' ⟨rfl, rfl⟩)
  go_ret
  exact ⟨rfl, rfl⟩

set_option maxHeartbeats 400000 in
theorem with_yes (m : Nat) (n : Int) (w : World) (hm : m < 18446744073709551616) (h0 : 0 ≤ n) (h1 : n < 64) :
    Calls Tryd.prog 67 #[.int .u64 m, .int .i64 n] w fun e w' => e = .returned (.int .u64 (Ma.withN m n.toNat : Nat)) ∧ w = w' := by
  obtain ⟨k, rfl⟩ := Int.eq_ofNat_of_zero_le h0
  go_enter Tryd.func67, Tryd.ntmps67
  go_wp2_with (go_at_call 71; refine (can_yes _ _ (by omega) (by omega)).mono ?_; rintro e w' ⟨rfl, rfl⟩)
  go_ret
  exact ⟨ret_int (Ma.with_key m _ hm (by omega)), rfl⟩

set_option maxHeartbeats 400000 in
theorem with_no (m : Nat) (n : Int) (w : World) (h : n < 0 ∨ 64 ≤ n) :
    Calls Tryd.prog 67 #[.int .u64 m, .int .i64 n] w fun e w' => e = .returned (.int .u64 m) ∧ w = w' := by
  go_enter Tryd.func67, Tryd.ntmps67
  go_wp2_with (go_at_call 71; refine (can_no _ _ h).mono ?_; rintro e w' ⟨rfl, rfl⟩)
  go_ret
  exact ⟨rfl, rfl⟩

set_option maxHeartbeats 400000 in
theorem without_yes (m : Nat) (n : Int) (w : World) (hm : m < 18446744073709551616) (h0 : 0 ≤ n) (h1 : n < 64) :
    Calls Tryd.prog 68 #[.int .u64 m, .int .i64 n] w fun e w' => e = .returned (.int .u64 (Ma.withoutN m n.toNat : Nat)) ∧ w = w' := by
  obtain ⟨k, rfl⟩ := Int.eq_ofNat_of_zero_le h0
  go_enter Tryd.func68, Tryd.ntmps68
  go_wp2_with (go_at_call 71; refine (can_yes _ _ (by omega) (by omega)).mono ?_; rintro e w' ⟨rfl, rfl⟩)
  go_ret
  exact ⟨ret_int (Ma.without_key m _ hm (by omega)), rfl⟩

set_option maxHeartbeats 400000 in
theorem without_no (m : Nat) (n : Int) (w : World) (h : n < 0 ∨ 64 ≤ n) :
    Calls Tryd.prog 68 #[.int .u64 m, .int .i64 n] w fun e w' => e = .returned (.int .u64 m) ∧ w = w' := by
  go_enter Tryd.func68, Tryd.ntmps68
  go_wp2_with (go_at_call 71; refine (can_no _ _ h).mono ?_; rintro e w' ⟨rfl, rfl⟩)
  go_ret
  exact ⟨rfl, rfl⟩

set_option maxHeartbeats 400000 in
theorem low_yes (n : Int) (w : World) (h0 : 0 ≤ n) (h1 : n ≤ 64) :
    Calls Tryd.prog 42 #[.int .i64 n] w fun e w' => e = .returned (.int .u64 (Ma.lowN n.toNat : Nat)) ∧ w = w' := by
  obtain ⟨k, rfl⟩ := Int.eq_ofNat_of_zero_le h0
  have h2 : ¬ (64 : Int) < k := by omega
  go_enter Tryd.func42, Tryd.ntmps42
  go_wp2
  go_ret
  exact ⟨ret_int (Ma.low_key _ (by omega)), rfl⟩

set_option maxHeartbeats 400000 in
theorem low_neg (n : Int) (w : World) (h0 : n < 0) :
    Calls Tryd.prog 42 #[.int .i64 n] w fun e w' => e = .returned (.int .u64 0) ∧ w = w' := by
  go_enter Tryd.func42, Tryd.ntmps42
  go_wp2
  go_ret
  exact ⟨rfl, rfl⟩

set_option maxHeartbeats 400000 in
theorem low_big (n : Int) (w : World) (h0 : 64 < n) :
    Calls Tryd.prog 42 #[.int .i64 n] w fun e w' => e = .returned (.int .u64 18446744073709551615) ∧ w = w' := by
  have h2 : ¬ n < 0 := by omega
  go_enter Tryd.func42, Tryd.ntmps42
  go_wp2
  go_ret
  exact ⟨rfl, rfl⟩

end Go.Proofs.YtkogeeaoppkhkaaDoor
