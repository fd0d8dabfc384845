/-
  Contracts of package conf's Check, and of the document's own May.
-/
import Derived.Test.YtchkgmknhndccaaDoorConf2
import Derived.Deep.DeepCutAuto
namespace Go.Proofs.YtchkgmknhndccaaDoor
open Go.RowKit

/-- May the numbers of a system be? -/
def in4 (x a b : Int) : Bool := decide (a ≤ x) && decide (x ≤ b)
def numB (W S B T : Int) : Bool := in4 W 1 64 && in4 S 1 64 && in4 B 1 64 && in4 T 0 8
/-- May a system be? -/
def mayB (W S B T : Int) (len : Nat) (f : Nat → Int) : Bool := numB W S B T && clsAll len f
def errI (b : Bool) : Int := if b then 0 else 1

set_option maxHeartbeats 1000000 in
theorem check_any (W S B T : Int) (ad : Option Addr) (len cap : Nat) (f : Nat → Int) (w : World) (hr : Hid (RowI w ad len f)) (hl : len < 9223372036854775808) :
    Calls Tryd.prog 32 #[.agg #[.int .i64 W, .int .i64 S, .int .i64 B, .int .i64 T, .slice ad len cap]] w fun e w' => e = .returned (.int .i64 (errI (mayB W S B T len f))) ∧ Below w.heap.size w w' := by
  have hb0 := below_alloc w (.cells #[.int .i64 W, .int .i64 S, .int .i64 B, .int .i64 T, .slice ad len cap] 24)
  have HB := Lib.hid hb0
  have HR : Hid (RowI (w.alloc (.cells #[.int .i64 W, .int .i64 S, .int .i64 B, .int .i64 T, .slice ad len cap] 24)) ad len f) := hr.out.next hb0
  have HM : Hid (mayB W S B T len f = (in4 W 1 64 && in4 S 1 64 && in4 B 1 64 && in4 T 0 8 && clsAll len f)) := rfl
  clear hb0
  generalize mayB W S B T len f = M at *
  have k1 : Hid ((decide (1 ≤ W) && decide (W ≤ 64)) = in4 W 1 64) := rfl
  have k2 : Hid ((decide (1 ≤ S) && decide (S ≤ 64)) = in4 S 1 64) := rfl
  have k3 : Hid ((decide (1 ≤ B) && decide (B ≤ 64)) = in4 B 1 64) := rfl
  have k4 : Hid ((decide (0 ≤ T) && decide (T ≤ 8)) = in4 T 0 8) := rfl
  generalize in4 W 1 64 = i1 at *
  generalize in4 S 1 64 = i2 at *
  generalize in4 B 1 64 = i3 at *
  generalize in4 T 0 8 = i4 at *
  cases i1
  · go_enter Tryd.func32, Tryd.ntmps32
    go_wp2_with fail
    refine (within_is _ _ _ _ _ k1.out).mono ?_
    rintro e w' ⟨rfl, rfl⟩
    go_wp2_with fail
    go_ret
    exact ⟨by rw [HM.out]; rfl, HB.out⟩
  · cases i2
    · go_enter Tryd.func32, Tryd.ntmps32
      go_wp2_with fail
      refine (within_is _ _ _ _ _ k1.out).mono ?_
      rintro e w' ⟨rfl, rfl⟩
      go_wp2_with fail
      refine (within_is _ _ _ _ _ k2.out).mono ?_
      rintro e w' ⟨rfl, rfl⟩
      go_wp2_with fail
      go_ret
      exact ⟨by rw [HM.out]; rfl, HB.out⟩
    · cases i3
      · go_enter Tryd.func32, Tryd.ntmps32
        go_wp2_with fail
        refine (within_is _ _ _ _ _ k1.out).mono ?_
        rintro e w' ⟨rfl, rfl⟩
        go_wp2_with fail
        refine (within_is _ _ _ _ _ k2.out).mono ?_
        rintro e w' ⟨rfl, rfl⟩
        go_wp2_with fail
        refine (within_is _ _ _ _ _ k3.out).mono ?_
        rintro e w' ⟨rfl, rfl⟩
        go_wp2_with fail
        go_ret
        exact ⟨by rw [HM.out]; rfl, HB.out⟩
      · cases i4
        · go_enter Tryd.func32, Tryd.ntmps32
          go_wp2_with fail
          refine (within_is _ _ _ _ _ k1.out).mono ?_
          rintro e w' ⟨rfl, rfl⟩
          go_wp2_with fail
          refine (within_is _ _ _ _ _ k2.out).mono ?_
          rintro e w' ⟨rfl, rfl⟩
          go_wp2_with fail
          refine (within_is _ _ _ _ _ k3.out).mono ?_
          rintro e w' ⟨rfl, rfl⟩
          go_wp2_with fail
          refine (within_is _ _ _ _ _ k4.out).mono ?_
          rintro e w' ⟨rfl, rfl⟩
          go_wp2_with fail
          go_ret
          exact ⟨by rw [HM.out]; rfl, HB.out⟩
        · go_enter Tryd.func32, Tryd.ntmps32
          go_wp2_with fail
          refine (within_is _ _ _ _ _ k1.out).mono ?_
          rintro e w' ⟨rfl, rfl⟩
          go_wp2_with fail
          refine (within_is _ _ _ _ _ k2.out).mono ?_
          rintro e w' ⟨rfl, rfl⟩
          go_wp2_with fail
          refine (within_is _ _ _ _ _ k3.out).mono ?_
          rintro e w' ⟨rfl, rfl⟩
          go_wp2_with fail
          refine (within_is _ _ _ _ _ k4.out).mono ?_
          rintro e w' ⟨rfl, rfl⟩
          go_wp2_with fail
          refine (classes_any _ _ _ _ _ HR hl).mono ?_
          rintro e w' ⟨rfl, rfl⟩
          generalize clsAll len f = c at *
          cases c
          · go_wp2_with fail
            go_ret
            exact ⟨by rw [HM.out]; rfl, HB.out⟩
          · go_wp2_with fail
            go_ret
            exact ⟨by rw [HM.out]; rfl, HB.out⟩

end Go.Proofs.YtchkgmknhndccaaDoor
