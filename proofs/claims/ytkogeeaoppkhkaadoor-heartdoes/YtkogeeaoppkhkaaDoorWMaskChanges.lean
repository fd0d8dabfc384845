/-
  The walk of the statement MaskChanges: with a number, or without it, a set is the document's; and back.
-/
import Derived.Test.YtkogeeaoppkhkaaDoorMask6
import Derived.Deep.RegionWith
namespace Go.Proofs.YtkogeeaoppkhkaaDoor
open Go.RowKit

theorem has_is (m i : Nat) (b : Bool) (w : World) (hm : m < 18446744073709551616) (h1 : i < 64) (hb : m.testBit i = b) :
    Calls Tryd.prog 41 #[.int .u64 m, .int .i64 i] w fun e w' => e = .returned (.bool b) ∧ w = w' := by
  have := has_yes m i w hm (by omega) (by omega)
  rw [Int.toNat_natCast, hb] at this
  exact this

theorem with_nat (m k : Nat) (w : World) (hm : m < 18446744073709551616) (h1 : k < 64) :
    Calls Tryd.prog 67 #[.int .u64 m, .int .i64 k] w fun e w' => e = .returned (.int .u64 (Ma.withN m k : Nat)) ∧ w = w' := with_yes m k w hm (by omega) (by omega)
theorem without_nat (m k : Nat) (w : World) (hm : m < 18446744073709551616) (h1 : k < 64) :
    Calls Tryd.prog 68 #[.int .u64 m, .int .i64 k] w fun e w' => e = .returned (.int .u64 (Ma.withoutN m k : Nat)) ∧ w = w' := without_yes m k w hm (by omega) (by omega)

theorem back_without (m k : Nat) (hm : m < 18446744073709551616) (h : k < 64) : Ma.withoutN (Ma.withN m k) k = Ma.withoutN m k := by
  refine Ma.word_ext (Ma.withoutN_lt _ (Ma.withN_lt hm h)) (Ma.withoutN_lt _ hm) fun i _ => ?_
  rw [Ma.testBit_withoutN (Ma.withN_lt hm h) h, Ma.testBit_withN, Ma.testBit_withoutN hm h]
  cases m.testBit i <;> cases decide (k = i) <;> rfl
theorem back_with (m k : Nat) (hm : m < 18446744073709551616) (h : k < 64) : Ma.withN (Ma.withoutN m k) k = Ma.withN m k := by
  refine Ma.word_ext (Ma.withN_lt (Ma.withoutN_lt _ hm) h) (Ma.withN_lt hm h) fun i _ => ?_
  rw [Ma.testBit_withN, Ma.testBit_withoutN hm h, Ma.testBit_withN]
  cases m.testBit i <;> cases decide (k = i) <;> rfl

end Go.Proofs.YtkogeeaoppkhkaaDoor
