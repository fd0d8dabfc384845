/-
  The walk of the statement ConfCalls: each fast try more costs just one attempt more; an attempt grows with the words, and with the workers.
-/
import Derived.Test.YtnjgajkcoahefaaConf5
namespace Go.Proofs.Ytnjgajkcoahefaa
open Go.RowKit

theorem call_is (a b t v : Int) (w : World) (h0 : 0 ≤ a) (h1 : a ≤ 1048577) (h2 : 0 ≤ b) (h3 : b ≤ 1048577) (h4 : 0 ≤ t) (h5 : t ≤ 1048577) (hv : callI a b t = v) :
    Calls Try.prog 34 #[.int .i64 a, .int .i64 b, .int .i64 t] w fun e w' => e = .returned (.int .i64 v) ∧ w = w' := by
  subst hv; exact call_any a b t w h0 h1 h2 h3 h4 h5
theorem attempt_is (a b v : Int) (w : World) (h0 : 0 ≤ a) (h1 : a ≤ 1048577) (h2 : 0 ≤ b) (h3 : b ≤ 1048577) (hv : attI a b = v) :
    Calls Try.prog 36 #[.int .i64 a, .int .i64 b] w fun e w' => e = .returned (.int .i64 v) ∧ w = w' := by
  subst hv; exact attempt_any a b w h0 h1 h2 h3
theorem call_more (a b t P : Int) (hP : attI a b * (t + 2) = P) : callI a b (t + 1) = P + attI a b + 6 := by
  unfold callI
  rw [show t + 1 + 2 = (t + 2) + 1 from by omega, Int.mul_add, hP, Int.mul_one]
theorem call_is_p (a b t P : Int) (hP : attI a b * (t + 2) = P) : callI a b t = P + 6 := by unfold callI; rw [hP]

set_option maxHeartbeats 1000000 in
theorem calls_walk (a b t : Nat) (w : World) (ha : a ≤ 255) (hb : b ≤ 255) (ht : t ≤ 255) :
    Calls Try.prog 13 #[.int .u8 a, .int .u8 b, .int .u8 t] w fun e w' => e = .returned (.bool true) ∧ Below w.heap.size w w' := by
  obtain ⟨P, hP⟩ : ∃ P, attI a b * ((t : Int) + 2) = P := ⟨_, rfl⟩
  obtain ⟨b1, b2⟩ := att_bounds (a := a) (b := b) (by omega) (by omega) (by omega) (by omega)
  obtain ⟨b3, b4⟩ := mul_bounds (A := attI a b) (t := t) (by omega) b2 (by omega) (by omega)
  rw [hP] at b3 b4
  have HP := Lib.hid hP
  have hM : ((t : Int) + 2) * (2 * ((a : Int) + 3 * (b : Int)) + 4 * (b : Int) + 6) = P := by
    rw [← hP, Int.mul_comm]; rfl
  have H1 : Hid (attI ((a : Int) + 1) b = attI a b + 2) := by show attI _ _ = _; unfold attI; omega
  have H2 : Hid (attI (a : Int) ((b : Int) + 1) = attI a b + 10) := by show attI _ _ = _; unfold attI; omega
  have HA : attI (a : Int) (b : Int) = 2 * ((a : Int) + 3 * (b : Int)) + 4 * (b : Int) + 6 := rfl
  have C1 := Lib.hid (call_more a b t P hP)
  have C0 := Lib.hid (call_is_p a b t P hP)
  have HR : Hid (recI (a : Int) (b : Int) = (a : Int) + 3 * (b : Int)) := rfl
  clear hP
  have HA0 : Hid (attI (a : Int) (b : Int) = attI a b) := rfl
  generalize hA : attI (a : Int) (b : Int) = A at b1 b2 H1 H2 HA C1
  have HA2 := Lib.hid hA
  clear hA
  go_enter Try.func13, Try.ntmps13
  go_wp2_with fail
  refine (speaks4 _).mono ?_
  rintro e w1 ⟨rfl, hbl⟩
  have B1 := Lib.hid hbl
  clear hbl
  go_wp2_with fail
  refine (call_is _ _ _ _ _ (by omega) (by omega) (by omega) (by omega) (by omega) (by omega) C1.out).mono ?_
  rintro e w' ⟨rfl, rfl⟩
  go_wp2_with fail
  refine (call_is _ _ _ _ _ (by omega) (by omega) (by omega) (by omega) (by omega) (by omega) C0.out).mono ?_
  rintro e w' ⟨rfl, rfl⟩
  go_wp2_with fail
  refine (attempt_is _ _ _ _ (by omega) (by omega) (by omega) (by omega) HA2.out).mono ?_
  rintro e w' ⟨rfl, rfl⟩
  go_wp2_with fail
  refine (attempt_is _ _ _ _ (by omega) (by omega) (by omega) (by omega) H1.out).mono ?_
  rintro e w' ⟨rfl, rfl⟩
  go_wp2_with fail
  refine (attempt_is _ _ _ _ (by omega) (by omega) (by omega) (by omega) HA2.out).mono ?_
  rintro e w' ⟨rfl, rfl⟩
  go_wp2_with fail
  refine (attempt_is _ _ _ _ (by omega) (by omega) (by omega) (by omega) H2.out).mono ?_
  rintro e w' ⟨rfl, rfl⟩
  go_wp2_with fail
  refine (attempt_is _ _ _ _ (by omega) (by omega) (by omega) (by omega) HA2.out).mono ?_
  rintro e w' ⟨rfl, rfl⟩
  go_wp2_with fail
  refine (record_any _ _ _ (by omega) (by omega) (by omega) (by omega)).mono ?_
  rintro e w' ⟨rfl, rfl⟩
  rw [HR.out]
  go_wp2_with fail
  refine (attempt_is _ _ _ _ (by omega) (by omega) (by omega) (by omega) HA2.out).mono ?_
  rintro e w' ⟨rfl, rfl⟩
  go_wp2_with fail
  refine (call_is _ _ _ _ _ (by omega) (by omega) (by omega) (by omega) (by omega) (by omega) C0.out).mono ?_
  rintro e w' ⟨rfl, rfl⟩
  go_wp2_with fail
  go_ret
  exact ⟨rfl, B1.out⟩

end Go.Proofs.Ytnjgajkcoahefaa
