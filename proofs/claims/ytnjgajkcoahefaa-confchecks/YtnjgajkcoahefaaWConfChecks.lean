/-
  The walk of the statement ConfChecks: which systems may be is the document's.
-/
import Derived.Test.YtnjgajkcoahefaaConf5
namespace Go.Proofs.Ytnjgajkcoahefaa
open Go.RowKit

set_option maxHeartbeats 1000000 in
theorem checks_walk (W S B T : Int) (ad : Option Addr) (len cap : Nat) (f : Nat → Int) (w : World) (hr : RowI w ad len f) (hl : len < 9223372036854775808) :
    Calls Try.prog 9 #[.agg #[.int .i64 W, .int .i64 S, .int .i64 B, .int .i64 T, .slice ad len cap]] w fun e w' => e = .returned (.bool true) ∧ Below w.heap.size w w' := by
  have B0 := Lib.hid (below_alloc w (.cells #[.int .i64 W, .int .i64 S, .int .i64 B, .int .i64 T, .slice ad len cap] 48))
  have C0 := Lib.hid (cfg_new w W S B T (.slice ad len cap))
  have R0 : Hid (RowI w ad len f) := hr
  clear hr
  go_enter Try.func9, Try.ntmps9
  go_wp2_with fail
  generalize w.alloc (.cells #[.int .i64 W, .int .i64 S, .int .i64 B, .int .i64 T, .slice ad len cap] 48) = w0 at *
  refine (speaks4 _).mono ?_
  rintro e w1 ⟨rfl, hb⟩
  have C1 := Lib.hid (cfg_next C0.out hb)
  have B1 := Lib.hid (below_after B0.out hb)
  clear hb C0
  obtain ⟨c0, c1, c2, c3, c4⟩ := cfg_cells C1.out
  by_cases hlen : (len : Int) ≤ 100
  · go_wp2_with fail
    refine (rmay_any W S B T ad len cap f _ (R0.out.next B1.out) hl).mono ?_
    rintro e w2 ⟨rfl, hb⟩
    have C2 := Lib.hid (cfg_next C1.out hb)
    have B2 := Lib.hid (below_after B1.out hb)
    clear hb C1 c0 c1 c2 c3 c4
    obtain ⟨c0, c1, c2, c3, c4⟩ := cfg_cells C2.out
    have HK := Lib.hid (check_any W S B T ad len cap f _ (R0.out.next B2.out) hl)
    generalize mayB W S B T len f = M at *
    cases M
    · go_wp2_with fail
      refine HK.out.mono ?_
      rintro e w3 ⟨he, hb⟩
      have he' : e = .returned (.int .i64 1) := he
      subst he'
      have B3 := Lib.hid (below_after B2.out hb)
      clear hb he
      go_wp2_with fail
      go_ret
      exact ⟨rfl, B3.out⟩
    · go_wp2_with fail
      refine HK.out.mono ?_
      rintro e w3 ⟨he, hb⟩
      have he' : e = .returned (.int .i64 0) := he
      subst he'
      have B3 := Lib.hid (below_after B2.out hb)
      clear hb he
      go_wp2_with fail
      go_ret
      exact ⟨rfl, B3.out⟩
  · have l1 : (100 : Int) < (len : Int) := by omega
    go_wp2_with fail
    go_ret
    exact ⟨rfl, B1.out⟩

end Go.Proofs.Ytnjgajkcoahefaa
