/-
  Contracts of the document's own arena: Class, Run, Cap, Address.
-/
import Derived.Test.YtkogeeaoppkhkaaDoorArena3
namespace Go.Proofs.YtkogeeaoppkhkaaDoor
open Go.RowKit

theorem vint_eq {k : IntKind} {a b : Int} (h : a = b) : Value.int k a = .int k b := by rw [h]

def bestI (len i j : Nat) : Int := if j = len then -1 else if i ≤ j then j else i
theorem cap_div {z n : Int} (hz : 0 < z) (h1 : n * z ≤ 1024) (h2 : 1024 < n * z + z) : 1024 / z = n := by
  have h3 : n ≤ 1024 / z := Int.le_ediv_of_mul_le hz h1
  have h4 : 1024 / z < n + 1 := Int.ediv_lt_of_lt_mul hz (by rw [Int.add_mul, Int.one_mul]; exact h2)
  omega
set_option maxHeartbeats 1000000 in
theorem rcap_any (W S B T : Int) (ad : Option Addr) (len cap : Nat) (f : Nat → Int) (k : Int) (w : World) (hr : Hid (RowI w ad len f)) (ok : Hid (ClsOk len f)) :
    Calls Tryd.prog 28 #[.agg #[.int .i64 W, .int .i64 S, .int .i64 B, .int .i64 T, .slice ad len cap], .int .i64 k] w fun e w' => e = .returned (.int .i64 (capI len f k)) ∧ Below w.heap.size w w' := by
  have hb := below_alloc w (.cells #[.int .i64 W, .int .i64 S, .int .i64 B, .int .i64 T, .slice ad len cap] 24)
  have HB := Lib.hid hb
  have HR := Lib.hid (hr.out.next hb)
  have C0 := Lib.hid (cfg_new w W S B T (.slice ad len cap))
  have HC : Hid (capI len f k = if szI len f k < 1 then 0 else 1024 / szI len f k) := rfl
  clear hb
  by_cases h0 : k < 0
  · have d0 : decide (k < 0) = true := by simpa using h0
    have HZ : Hid (capI len f k = 0) := by show _ = _; rw [HC.out, szI_out (.inl h0)]; rfl
    go_enter Tryd.func28, Tryd.ntmps28
    go_wp2
    go_ret
    exact ⟨by rw [HZ.out]; first | done | rfl, HB.out⟩
  · have d0 : decide (k < 0) = false := by simpa using h0
    by_cases h1 : (len : Int) ≤ k
    · have d1 : decide ((len : Int) ≤ k) = true := by simpa using h1
      have HZ : Hid (capI len f k = 0) := by show _ = _; rw [HC.out, szI_out (.inr h1)]; rfl
      go_enter Tryd.func28, Tryd.ntmps28
      go_wp2
      go_ret
      exact ⟨by rw [HZ.out]; first | done | rfl, HB.out⟩
    · have d1 : decide ((len : Int) ≤ k) = false := by simpa using h1
      obtain ⟨n, rfl⟩ := Int.eq_ofNat_of_zero_le (show 0 ≤ k by omega)
      have hn : n < len := by omega
      have l2 : (n : Int) < (len : Int) := by omega
      have z1 := ok.out.lo n hn
      have z2 := ok.out.hi n hn
      have HZ : Hid (capI len f (n : Int) = 1024 / f n) := by show _ = _; rw [HC.out, szI_nat hn, if_neg (by omega)]
      obtain ⟨b, off, rfl, hc⟩ := HR.out.at hn
      clear HC
      generalize f n = z at *
      go_enter Tryd.func28, Tryd.ntmps28
      go_wp2
      generalize w.alloc (.cells #[.int .i64 W, .int .i64 S, .int .i64 B, .int .i64 T, .slice (some ⟨b, off, none⟩) len cap] 24) = w0 at *
      generalize hN : w.heap.size = N at *
      obtain ⟨c0, c1, c2, c3, c4⟩ := cfg_cells C0.out
      go_loop [5, 6] (fun v u => ∃ n p : Int, 0 ≤ n ∧ n ≤ 64 ∧ 0 ≤ p ∧ p ≤ 1024 ∧ Hid (p = n * z) ∧ v = .int .i64 n ∧ u = .int .i64 (p + z)) (fun _ u => (1025 - intOf u).toNat)
      case atStart => exact ⟨0, 0, by omega, by omega, by omega, by omega, by show (0 : Int) = 0 * z; omega, rfl, vint_eq (by omega)⟩
      case round =>
        obtain ⟨m, p, m0, m1, p0, p1, HP, rfl, rfl⟩ := hrel
        by_cases h4 : p + z ≤ 1024
        · have d4 : decide (p + z ≤ 1024) = true := by simpa using h4
          have m2 : m + 1 ≤ 64 := by
            rcases Int.lt_or_le m 64 with h | h
            · omega
            · exfalso
              have : (64 : Int) * 16 ≤ m * z := Int.mul_le_mul h z1 (by omega) (by omega)
              have := HP.out; omega
          have HP2 : Hid (p + z = (m + 1) * z) := by show _ = _; rw [Int.add_mul, Int.one_mul, HP.out]
          go_wp2
          go_round
          case rel => exact ⟨m + 1, p + z, by omega, by omega, by omega, h4, HP2, rfl, rfl⟩
          case measure => first | (simp [intOf]; done) | (simp [intOf]; omega)
        · have d4 : decide (p + z ≤ 1024) = false := by simpa using h4
          have HE : Hid (capI len f (n : Int) = m) := by show _ = _; rw [HZ.out]; exact cap_div (by omega) (by rw [← HP.out]; exact p1) (by rw [← HP.out]; omega)
          go_wp2
          go_ret
          exact ⟨by rw [HE.out]; first | done | rfl, by first | exact HB.out | (rw [hN]; exact HB.out)⟩

end Go.Proofs.YtkogeeaoppkhkaaDoor
