/-
  Contract of mask's Least.
-/
import Derived.Test.YtkogeeaoppkhkaaDoorMask3
namespace Go.Proofs.YtkogeeaoppkhkaaDoor
open Go.RowKit

set_option maxHeartbeats 400000 in
theorem least_any (m : Nat) (n : Int) (w : World) (hm : m < 18446744073709551616) (hn : n < 9223372036854775808) (hT : Hid (TabAt w)) :
    Calls Tryd.prog 79 #[.int .u64 m, .int .i64 n] w fun e w' => e = .returned (.int .u64 (Ma.leastN m n.toNat : Nat)) ∧ w = w' := by
  go_enter Tryd.func79, Tryd.ntmps79
  go_wp2
  go_loop [5, 6] (fun r i => ∃ k : Nat, k ≤ (Ma.mem m).length ∧ k ≤ n.toNat ∧ i = .int .i64 k ∧ r = .int .u64 (Ma.restN m k : Nat)) (fun _ i => n.toNat - (intOf i).toNat)
  case atStart => exact ⟨0, Nat.zero_le _, Nat.zero_le _, rfl, rfl⟩
  case round =>
    obtain ⟨k, hk, hkn, rfl, rfl⟩ := hrel
    have hl := Ma.restN_lt m hm k
    have hz := Ma.restN_zero m k hm hk
    have HS := Lib.hid (Ma.leastN_same m k n.toNat)
    have HA := Lib.hid (Ma.andNot_rest m k hm hk)
    have HU := Lib.hid (u64_andNot_nat m (Ma.restN m k) hm hl)
    have HR : Hid (Ma.restN m (k + 1) = Ma.withoutN (Ma.restN m k) (Go.Lib.ctz 64 (Ma.restN m k))) := rfl
    have HC := Lib.hid (Ma.ctz_spec (Ma.restN m k) hl)
    generalize hr : Ma.restN m k = r at *
    have Hr := Lib.hid hr
    clear hr
    by_cases h1 : (k : Int) < n
    · by_cases h2 : r = 0
      · have e : k = (Ma.mem m).length := hz.1 h2
        have b : ((r : Int) != 0) = false := by simp [h2]
        have HE := Lib.hid e
        have H2 := Lib.hid h2
        clear e h2 hz
        go_wp2
        go_ret
        exact ⟨ret_int (by rw [HU.out, ← HS.out (Or.inr ⟨HE.out, by omega⟩), ← HA.out]; rfl), rfl⟩
      · have b : ((r : Int) != 0) = true := by simp; omega
        have hc := (HC.out h2).1
        have e : k ≠ (Ma.mem m).length := fun h => h2 (hz.2 h)
        have hk' : k + 1 ≤ (Ma.mem m).length := by omega
        clear hz e h2
        go_wp2_with fail
        refine (first_any _ _ hl hT).mono ?_
        rintro e w' ⟨rfl, rfl⟩
        go_wp2_with fail
        refine (without_yes _ _ _ hl (by omega) (by omega)).mono ?_
        rintro e w' ⟨rfl, rfl⟩
        go_wp2_with fail
        go_round
        case rel => exact ⟨k + 1, hk', by omega, by go_num, by rw [HR.out]⟩
        case measure => simp [intOf]; omega
    · have b : decide ((k : Int) < n) = false := by simpa using h1
      clear hz
      go_wp2
      go_ret
      exact ⟨ret_int (by rw [HU.out, ← HS.out (Or.inl (by omega)), ← HA.out]; rfl), rfl⟩

end Go.Proofs.YtkogeeaoppkhkaaDoor
