/-
  Contracts of the document's own arena: Class, Run, Cap, Address.
-/
import Derived.Test.YtchkgmknhndccaaArena3
namespace Go.Proofs.Ytchkgmknhndccaa
open Go.RowKit

theorem vint_eq {k : IntKind} {a b : Int} (h : a = b) : Value.int k a = .int k b := by rw [h]

def bestI (len i j : Nat) : Int := if j = len then -1 else if i ≤ j then j else i
set_option maxHeartbeats 1000000 in
theorem rclass_yes (W S B T : Int) (ad : Option Addr) (len cap : Nat) (f : Nat → Int) (size : Int) (i : Nat) (w : World) (hr : Hid (RowI w ad len f)) (hl : len < 9223372036854775808) (h : 1 ≤ size)
    (hi : i < len) (h2 : Hid (∀ j, i ≤ j → j < len → size ≤ f j)) (h3 : Hid (∀ j, j < i → f j < size)) :
    Calls Try.prog 9 #[.agg #[.int .i64 W, .int .i64 S, .int .i64 B, .int .i64 T, .slice ad len cap], .int .i64 size] w fun e w' => e = .returned (.int .i64 i) ∧ Below w.heap.size w w' := by
  have hb := below_alloc w (.cells #[.int .i64 W, .int .i64 S, .int .i64 B, .int .i64 T, .slice ad len cap] 24)
  have HB := Lib.hid hb
  have HR := Lib.hid (hr.out.next hb)
  have C0 := Lib.hid (cfg_new w W S B T (.slice ad len cap))
  have d1 : decide (1 ≤ size) = true := by simpa using h
  have hl' : (len : Int) < 9223372036854775808 := by omega
  clear hb
  go_enter Try.func9, Try.ntmps9
  go_wp2
  generalize w.alloc (.cells #[.int .i64 W, .int .i64 S, .int .i64 B, .int .i64 T, .slice ad len cap] 24) = w1 at *
  generalize hN : w.heap.size = N at *
  obtain ⟨c0, c1, c2, c3, c4⟩ := cfg_cells C0.out
  go_loop [5, 6] (fun v u => ∃ j : Nat, j ≤ len ∧ v = .int .i64 (bestI len i j) ∧ u = .int .i64 ((j : Int) - 1)) (fun _ u => (intOf u + 1).toNat)
  case atStart => exact ⟨len, Nat.le_refl _, by simp [bestI], rfl⟩
  case round =>
    obtain ⟨j, hj, rfl, rfl⟩ := hrel
    by_cases e : j = 0
    · subst e
      have d2 : decide ((0 : Int) ≤ ((0 : Nat) : Int) - 1) = false := by decide
      have HE : Hid (bestI len i 0 = i) := by show bestI len i 0 = i; unfold bestI; rw [if_neg (by omega)]; split <;> omega
      generalize bestI len i 0 = bb at *
      go_wp2
      go_ret
      exact ⟨by rw [HE.out]; first | done | rfl, by first | exact HB.out | (rw [hN]; exact HB.out)⟩
    · obtain ⟨n, rfl⟩ : ∃ n, j = n + 1 := ⟨j - 1, by omega⟩
      rw [show (((n + 1 : Nat) : Int) - 1) = (n : Int) from by omega]
      have hn : n < len := by omega
      have l2 : (n : Int) < (len : Int) := by omega
      have d2 : decide ((0 : Int) ≤ (n : Int)) = true := by simp
      obtain ⟨b, off, rfl, hc⟩ := HR.out.at hn
      have H2 := Lib.hid (fun h => h2.out n h hn)
      have H3 := Lib.hid (h3.out n)
      have HE1 : Hid (i ≤ n → bestI len i n = n) := fun h => by unfold bestI; rw [if_neg (by omega), if_pos h]
      have HE2 : Hid (¬ i ≤ n → bestI len i n = bestI len i (n + 1)) := fun h => by unfold bestI; rw [if_neg (by omega), if_neg (by omega), if_neg (by omega)]; split <;> omega
      generalize bestI len i (n + 1) = bb at *
      generalize f n = z at *
      by_cases hq : i ≤ n
      · have d3 : decide (size ≤ z) = true := by have := H2.out hq; simpa using this
        go_wp2
        go_round
        case rel => exact ⟨n, by omega, vint_eq (HE1.out hq).symm, rfl⟩
        case measure => first | (simp [intOf]; done) | (simp [intOf]; omega)
      · have d3 : decide (size ≤ z) = false := by have := H3.out (by omega); simpa using this
        go_wp2
        go_round
        case rel => exact ⟨n, by omega, vint_eq (HE2.out hq).symm, rfl⟩
        case measure => first | (simp [intOf]; done) | (simp [intOf]; omega)

set_option maxHeartbeats 1000000 in
theorem rclass_no (W S B T : Int) (ad : Option Addr) (len cap : Nat) (f : Nat → Int) (size : Int) (w : World) (hr : Hid (RowI w ad len f)) (hl : len < 9223372036854775808)
    (h3 : Hid (size < 1 ∨ ∀ j, j < len → f j < size)) :
    Calls Try.prog 9 #[.agg #[.int .i64 W, .int .i64 S, .int .i64 B, .int .i64 T, .slice ad len cap], .int .i64 size] w fun e w' => e = .returned (.int .i64 (-1)) ∧ Below w.heap.size w w' := by
  have hb := below_alloc w (.cells #[.int .i64 W, .int .i64 S, .int .i64 B, .int .i64 T, .slice ad len cap] 24)
  have HB := Lib.hid hb
  have HR := Lib.hid (hr.out.next hb)
  have C0 := Lib.hid (cfg_new w W S B T (.slice ad len cap))
  have hl' : (len : Int) < 9223372036854775808 := by omega
  clear hb
  go_enter Try.func9, Try.ntmps9
  go_wp2
  generalize w.alloc (.cells #[.int .i64 W, .int .i64 S, .int .i64 B, .int .i64 T, .slice ad len cap] 24) = w1 at *
  generalize hN : w.heap.size = N at *
  obtain ⟨c0, c1, c2, c3, c4⟩ := cfg_cells C0.out
  go_loop [5, 6] (fun v u => ∃ j : Nat, j ≤ len ∧ v = .int .i64 (-1) ∧ u = .int .i64 ((j : Int) - 1)) (fun _ u => (intOf u + 1).toNat)
  case atStart => exact ⟨len, Nat.le_refl _, rfl, rfl⟩
  case round =>
    obtain ⟨j, hj, rfl, rfl⟩ := hrel
    by_cases e : j = 0
    · subst e
      have d2 : decide ((0 : Int) ≤ ((0 : Nat) : Int) - 1) = false := by decide
      go_wp2
      go_ret
      exact ⟨rfl, by first | exact HB.out | (rw [hN]; exact HB.out)⟩
    · obtain ⟨n, rfl⟩ : ∃ n, j = n + 1 := ⟨j - 1, by omega⟩
      rw [show (((n + 1 : Nat) : Int) - 1) = (n : Int) from by omega]
      have hn : n < len := by omega
      have l2 : (n : Int) < (len : Int) := by omega
      have d2 : decide ((0 : Int) ≤ (n : Int)) = true := by simp
      obtain ⟨b, off, rfl, hc⟩ := HR.out.at hn
      by_cases h1 : 1 ≤ size
      · have d1 : decide (1 ≤ size) = true := by simpa using h1
        have h4 : f n < size := by rcases h3.out with h | h; · omega
                                   · exact h n hn
        generalize f n = z at *
        have d3 : decide (size ≤ z) = false := by simpa using h4
        go_wp2
        go_round
        case rel => exact ⟨n, by omega, rfl, rfl⟩
        case measure => first | (simp [intOf]; done) | (simp [intOf]; omega)
      · have d1 : decide (1 ≤ size) = false := by simpa using h1
        go_wp2
        go_round
        case rel => exact ⟨n, by omega, rfl, rfl⟩
        case measure => first | (simp [intOf]; done) | (simp [intOf]; omega)

set_option maxHeartbeats 1000000 in
theorem rrun_zero (W S B T : Int) (ad : Option Addr) (len cap : Nat) (f : Nat → Int) (size : Int) (i : Nat) (w : World) (hr : Hid (RowI w ad len f)) (hl : len < 9223372036854775808)
    (h : size < 1 ∨ (i < len ∧ Hid (∀ j, i ≤ j → j < len → size ≤ f j) ∧ Hid (∀ j, j < i → f j < size))) :
    Calls Try.prog 11 #[.agg #[.int .i64 W, .int .i64 S, .int .i64 B, .int .i64 T, .slice ad len cap], .int .i64 size] w fun e w' => e = .returned (.int .i64 0) ∧ Below w.heap.size w w' := by
  have hb := below_alloc w (.cells #[.int .i64 W, .int .i64 S, .int .i64 B, .int .i64 T, .slice ad len cap] 24)
  have HB := Lib.hid hb
  have HR := Lib.hid (hr.out.next hb)
  clear hb
  by_cases h0 : size < 1
  · have d1 : decide (size < 1) = true := by simpa using h0
    clear h
    go_enter Try.func11, Try.ntmps11
    go_wp2_with fail
    go_ret
    exact ⟨rfl, HB.out⟩
  · have d1 : decide (size < 1) = false := by simpa using h0
    obtain ⟨h1, h2, h3⟩ := h.resolve_left h0
    clear h
    go_enter Try.func11, Try.ntmps11
    go_wp2_with fail
    refine (rclass_yes W S B T ad len cap f size i _ HR hl (by omega) h1 h2 h3).mono ?_
    rintro e w1 ⟨rfl, hb⟩
    have HB2 := Lib.hid (below_after HB.out hb)
    clear hb
    go_wp2_with fail
    go_ret
    exact ⟨rfl, HB2.out⟩

set_option maxHeartbeats 1000000 in
theorem rrun_no (W S B T : Int) (ad : Option Addr) (len cap : Nat) (f : Nat → Int) (size : Int) (w : World) (hr : Hid (RowI w ad len f)) (hl : len < 9223372036854775808) (h : 1 ≤ size)
    (h3 : Hid (∀ j, j < len → f j < size)) (s0 : 0 ≤ S) (s1 : S ≤ 1000) :
    Calls Try.prog 11 #[.agg #[.int .i64 W, .int .i64 S, .int .i64 B, .int .i64 T, .slice ad len cap], .int .i64 size] w fun e w' => e = .returned (.int .i64 (runI S size)) ∧ Below w.heap.size w w' := by
  have hb := below_alloc w (.cells #[.int .i64 W, .int .i64 S, .int .i64 B, .int .i64 T, .slice ad len cap] 24)
  have HB := Lib.hid hb
  have HR := Lib.hid (hr.out.next hb)
  have C0 := Lib.hid (cfg_new w W S B T (.slice ad len cap))
  have d1 : decide (size < 1) = false := by simp; omega
  have HQ : Hid (runI S size = if 1024 * S < size then 0 else (size - 1) / 1024 + 1) := rfl
  clear hb
  go_enter Try.func11, Try.ntmps11
  go_wp2_with fail
  generalize w.alloc (.cells #[.int .i64 W, .int .i64 S, .int .i64 B, .int .i64 T, .slice ad len cap] 24) = w0 at *
  refine (rclass_no W S B T ad len cap f size _ HR hl (.inr h3.out)).mono ?_
  rintro e w1 ⟨rfl, hb⟩
  have HB2 := Lib.hid (below_after HB.out hb)
  have C1 := Lib.hid (cfg_next C0.out hb)
  clear hb HR C0 HB
  generalize hN : w.heap.size = N at *
  obtain ⟨c0, c1, c2, c3, c4⟩ := cfg_cells C1.out
  go_wp2_with fail
  go_loop [5] (fun u => ∃ n : Int, 1 ≤ n ∧ n ≤ S + 1 ∧ 1024 * (n - 1) < size ∧ u = .int .i64 n) (fun u => (S + 1 - intOf u).toNat)
  case atStart => exact ⟨1, by omega, by omega, by omega, rfl⟩
  case round =>
    obtain ⟨n, n1, n2, n3, rfl⟩ := hrel
    by_cases h4 : n ≤ S
    · have d4 : decide (n ≤ S) = true := by simpa using h4
      by_cases h5 : size ≤ 1024 * n
      · have d5 : decide (size ≤ 1024 * n) = true := by simpa using h5
        have HE : Hid (runI S size = n) := by show runI S size = n; rw [HQ.out, if_neg (by omega)]; omega
        go_wp2_with fail
        go_ret
        exact ⟨by rw [HE.out]; first | done | rfl, by first | exact HB2.out | (rw [hN]; exact HB2.out)⟩
      · have d5 : decide (size ≤ 1024 * n) = false := by simpa using h5
        go_wp2_with fail
        go_round
        case rel => exact ⟨n + 1, by omega, by omega, by omega, rfl⟩
        case measure => first | (simp [intOf]; done) | (simp [intOf]; omega)
    · have d4 : decide (n ≤ S) = false := by simpa using h4
      have HE : Hid (runI S size = 0) := by show runI S size = 0; rw [HQ.out, if_pos (by omega)]
      go_wp2_with fail
      go_ret
      exact ⟨by rw [HE.out]; first | done | rfl, by first | exact HB2.out | (rw [hN]; exact HB2.out)⟩

theorem cap_div {z n : Int} (hz : 0 < z) (h1 : n * z ≤ 1024) (h2 : 1024 < n * z + z) : 1024 / z = n := by
  have h3 : n ≤ 1024 / z := Int.le_ediv_of_mul_le hz h1
  have h4 : 1024 / z < n + 1 := Int.ediv_lt_of_lt_mul hz (by rw [Int.add_mul, Int.one_mul]; exact h2)
  omega
end Go.Proofs.Ytchkgmknhndccaa
