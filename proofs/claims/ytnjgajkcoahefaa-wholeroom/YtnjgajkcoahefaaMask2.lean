/-
  Contracts of math/bits.OnesCount64 and TrailingZeros64, and of mask's Count and First.
-/
import Derived.Test.YtnjgajkcoahefaaMask1
import Derived.Test.YtnjgajkcoahefaaMath2
namespace Go.Proofs.Ytnjgajkcoahefaa
open Go.RowKit

set_option maxHeartbeats 400000 in
theorem ones_any (x : Nat) (w : World) (hx : x < 18446744073709551616) :
    Calls Try.prog 48 #[.int .u64 x] w fun e w' => e = .returned (.int .i64 (Ma.popF 64 x : Nat)) ∧ w = w' := by
  obtain ⟨a, b, c, d, e, f, k1, k2, k3, k4, k5, k6, hf, hp⟩ := Ma.ones_keys x hx
  have k7 := Ma.i64_wrap_nat f hf
  have k8 := Ma.ones_last f _ hf hp
  generalize Ma.popF 64 x = p at *
  have HP := Lib.hid hp
  clear hp
  go_enter Try.func48, Try.ntmps48
  go_wp2
  go_ret
  exact ⟨rfl, rfl⟩

set_option maxHeartbeats 400000 in
theorem count_any (x : Nat) (w : World) (hx : x < 18446744073709551616) :
    Calls Try.prog 40 #[.int .u64 x] w fun e w' => e = .returned (.int .i64 (Ma.popF 64 x : Nat)) ∧ w = w' := by
  have kw := Ma.wrap_nat x hx
  go_enter Try.func40, Try.ntmps40
  go_wp2_with (go_at_call 48; refine (ones_any _ _ hx).mono ?_; rintro e w' ⟨rfl, rfl⟩)
  go_ret
  exact ⟨rfl, rfl⟩

end Go.Proofs.Ytnjgajkcoahefaa
