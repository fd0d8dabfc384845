/-
  The walk of the statement MaskRuns: the first of so many in a row; no row that begins ahead of it is in the set.
-/
import Derived.Test.YtjddbbkmaifcpaaDoorWMaskChanges
namespace Go.Proofs.YtjddbbkmaifcpaaDoor
open Go.RowKit

theorem isRow_zero (m a : Nat) : Ma.isRow m a 0 = true := rfl
theorem isRow_step (m a j : Nat) : Ma.isRow m a (j + 1) = (Ma.isRow m a j && m.testBit (a + j)) := by
  simp [Ma.isRow, List.range_succ, List.all_append]
theorem isRow_bit {m a n j : Nat} (h : Ma.isRow m a n = true) (hj : j < n) : m.testBit (a + j) = true := (Ma.isRow_iff m a n).1 h j hj
theorem isRow_false_mono {m a j n : Nat} (h : Ma.isRow m a j = false) (hj : j ≤ n) : Ma.isRow m a n = false := by
  rcases hb : Ma.isRow m a n with _ | _
  · rfl
  · have := (Ma.isRow_iff m a n).1 hb
    have h2 : Ma.isRow m a j = true := (Ma.isRow_iff m a j).2 fun i hi => this i (by omega)
    rw [h] at h2; cases h2

theorem has_sum (m a j : Nat) (b : Bool) (w : World) (hm : m < 18446744073709551616) (h1 : a + j < 64) (hb : m.testBit (a + j) = b) :
    Calls Tryd.prog 29 #[.int .u64 m, .int .i64 ((a : Int) + (j : Int))] w fun e w' => e = .returned (.bool b) ∧ w = w' := by
  have := has_is m (a + j) b w hm h1 hb
  rw [show (((a + j : Nat)) : Int) = (a : Int) + (j : Int) from by omega] at this
  exact this

/-- The two loops that look for a row ahead of 'q': shared by both ways. -/
def NoneAhead (m n q : Nat) : Prop := ∀ k, k < q → Ma.isRow m k n = false

set_option maxHeartbeats 1000000 in
theorem runs_out (m : Nat) (n : Int) (w : World) (h : n < 1 ∨ 64 < n) (hn2 : n < 9223372036854775808) (hT : Hid (TabAt w)) :
    Calls Tryd.prog 13 #[.int .u64 m, .int .i64 n] w fun e w' => e = .returned (.bool true) ∧ Below w.heap.size w w' := by
  rcases h with h | h
  · go_enter Tryd.func13, Tryd.ntmps13
    go_wp2_with fail
    refine (speaks2 _ hT).mono ?_
    rintro e w1 ⟨rfl, hb⟩
    have HB := Lib.hid hb
    clear hb
    go_wp2_with fail
    refine (run_few _ _ _ h).mono ?_
    rintro e w' ⟨rfl, rfl⟩
    go_wp2
    go_ret
    exact ⟨rfl, HB.out⟩
  · have h0 : ¬ n < 1 := by omega
    go_enter Tryd.func13, Tryd.ntmps13
    go_wp2_with fail
    refine (speaks2 _ hT).mono ?_
    rintro e w1 ⟨rfl, hb⟩
    have HB := Lib.hid hb
    clear hb
    go_wp2_with fail
    refine (run_many _ _ _ h hn2).mono ?_
    rintro e w' ⟨rfl, rfl⟩
    go_wp2
    go_ret
    exact ⟨rfl, HB.out⟩

set_option maxHeartbeats 2000000 in
theorem runs_none (m n : Nat) (w : World) (hm : m < 18446744073709551616) (hn : 1 ≤ n) (hn2 : n ≤ 64) (hno : Hid (∀ k, k + n ≤ 64 → Ma.isRow m k n = false)) (hT : Hid (TabAt w)) :
    Calls Tryd.prog 13 #[.int .u64 m, .int .i64 n] w fun e w' => e = .returned (.bool true) ∧ Below w.heap.size w w' := by
  have h0 : ¬ (n : Int) < 1 := by omega
  have h1 : ¬ (64 : Int) < n := by omega
  go_enter Tryd.func13, Tryd.ntmps13
  go_wp2_with fail
  refine (speaks2 _ hT).mono ?_
  rintro e w1 ⟨rfl, hb⟩
  have HB := Lib.hid hb
  clear hb
  go_wp2_with fail
  refine (run_none _ _ _ hm hn hn2 hno).mono ?_
  rintro e w' ⟨rfl, rfl⟩
  go_wp2_with fail
  go_loop [50] (fun t => ∃ k : Nat, k + n ≤ 65 ∧ t = .int .i64 k) (fun t => 65 - n - (intOf t).toNat)
  case atStart => exact ⟨0, by omega, rfl⟩
  case round =>
    obtain ⟨k, hk, rfl⟩ := hrel
    by_cases hlt : k + n ≤ 64
    · have hlt' : (k : Int) < 65 - (n : Int) := by omega
      have HF := Lib.hid (hno.out k hlt)
      go_wp2_with fail
      go_loop [11, 54] (fun al t => ∃ j : Nat, j ≤ n ∧ t = .int .i64 j ∧ al = .bool (Ma.isRow m k j)) (fun _ t => n - (intOf t).toNat)
      case atStart => exact ⟨0, Nat.zero_le _, rfl, rfl⟩
      case round =>
        obtain ⟨j, hj, rfl, rfl⟩ := hrel
        have HS := Lib.hid (isRow_step m k j)
        by_cases hjn : j < n
        · have hjn' : (j : Int) < n := by omega
          rcases hr : Ma.isRow m k j with _ | _
          · rw [hr] at HS
            have HR := Lib.hid hr
            clear hr
            go_wp2_with fail
            go_round
            case rel => exact ⟨j + 1, by omega, by go_num, by rw [HS.out]; rfl⟩
            case measure => simp [intOf]; omega
          · rw [hr] at HS
            have HR := Lib.hid hr
            clear hr
            go_wp2_with fail
            refine (has_sum _ _ _ _ _ hm (by omega) rfl).mono ?_
            rintro e w' ⟨rfl, rfl⟩
            go_wp2_with fail
            go_round
            case rel => exact ⟨j + 1, by omega, by go_num, by rw [HS.out]; simp⟩
            case measure => simp [intOf]; omega
        · obtain rfl : j = n := by omega
          rw [HF.out]
          go_wp2_with fail
          go_round
          case rel => exact ⟨k + 1, by omega, by go_num⟩
          case measure => simp [intOf]; omega
    · have hlt' : ¬ (k : Int) < 65 - (n : Int) := by omega
      go_wp2_with fail
      go_ret
      exact ⟨rfl, HB.out⟩

set_option maxHeartbeats 2000000 in
theorem runs_found (m n a : Nat) (w : World) (hm : m < 18446744073709551616) (hn : 1 ≤ n) (ha : a + n ≤ 64) (hrow : Hid (Ma.isRow m a n = true)) (hno : Hid (∀ k, k < a → Ma.isRow m k n = false)) (hT : Hid (TabAt w)) :
    Calls Tryd.prog 13 #[.int .u64 m, .int .i64 n] w fun e w' => e = .returned (.bool true) ∧ Below w.heap.size w w' := by
  have h0 : ¬ (n : Int) < 1 := by omega
  have h1 : ¬ (64 : Int) < n := by omega
  go_enter Tryd.func13, Tryd.ntmps13
  go_wp2_with fail
  refine (speaks2 _ hT).mono ?_
  rintro e w1 ⟨rfl, hb⟩
  have HB := Lib.hid hb
  clear hb
  go_wp2_with fail
  refine (run_found _ _ _ _ hm hn ha hrow hno).mono ?_
  rintro e w' ⟨rfl, rfl⟩
  go_wp2_with fail
  go_loop [39] (fun t => ∃ j : Nat, j ≤ n ∧ t = .int .i64 j) (fun t => n - (intOf t).toNat)
  case atStart => exact ⟨0, by omega, rfl⟩
  case round =>
    obtain ⟨j, hj, rfl⟩ := hrel
    by_cases hjn : j < n
    · have hjn' : (j : Int) < n := by omega
      have HT2 := Lib.hid (isRow_bit hrow.out hjn)
      go_wp2_with fail
      refine (has_sum _ _ _ _ _ hm (by omega) HT2.out).mono ?_
      rintro e w' ⟨rfl, rfl⟩
      go_wp2_with fail
      go_round
      case rel => exact ⟨j + 1, by omega, by go_num⟩
      case measure => simp [intOf]; omega
    · have hjn' : ¬ (j : Int) < n := by omega
      go_wp2_with fail
      go_loop [50] (fun t => ∃ k : Nat, k ≤ a ∧ t = .int .i64 k) (fun t => a - (intOf t).toNat)
      case atStart => exact ⟨0, by omega, rfl⟩
      case round =>
        obtain ⟨k, hk, rfl⟩ := hrel
        by_cases hlt : k < a
        · have hlt' : (k : Int) < (a : Int) := by omega
          have HF := Lib.hid (hno.out k hlt)
          go_wp2_with fail
          go_loop [11, 54] (fun al t => ∃ j : Nat, j ≤ n ∧ t = .int .i64 j ∧ al = .bool (Ma.isRow m k j)) (fun _ t => n - (intOf t).toNat)
          case atStart => exact ⟨0, Nat.zero_le _, rfl, rfl⟩
          case round =>
            obtain ⟨j, hj, rfl, rfl⟩ := hrel
            have HS := Lib.hid (isRow_step m k j)
            by_cases hjn : j < n
            · have hjn' : (j : Int) < n := by omega
              rcases hr : Ma.isRow m k j with _ | _
              · rw [hr] at HS
                have HR := Lib.hid hr
                clear hr
                go_wp2_with fail
                go_round
                case rel => exact ⟨j + 1, by omega, by go_num, by rw [HS.out]; rfl⟩
                case measure => simp [intOf]; omega
              · rw [hr] at HS
                have HR := Lib.hid hr
                clear hr
                go_wp2_with fail
                refine (has_sum _ _ _ _ _ hm (by omega) rfl).mono ?_
                rintro e w' ⟨rfl, rfl⟩
                go_wp2_with fail
                go_round
                case rel => exact ⟨j + 1, by omega, by go_num, by rw [HS.out]; simp⟩
                case measure => simp [intOf]; omega
            · obtain rfl : j = n := by omega
              rw [HF.out]
              go_wp2_with fail
              go_round
              case rel => exact ⟨k + 1, by omega, by go_num⟩
              case measure => simp [intOf]; omega
        · have hlt' : ¬ (k : Int) < (a : Int) := by omega
          go_wp2_with fail
          go_ret
          exact ⟨rfl, HB.out⟩

/-- The first row of so many, if there is one. -/
theorem run_cases (m n : Nat) : (∃ a, a + n ≤ 64 ∧ Ma.isRow m a n = true ∧ ∀ k, k < a → Ma.isRow m k n = false) ∨ ∀ k, k + n ≤ 64 → Ma.isRow m k n = false := by
  have key : ∀ q, (∃ a, a < q ∧ Ma.isRow m a n = true ∧ ∀ k, k < a → Ma.isRow m k n = false) ∨ ∀ k, k < q → Ma.isRow m k n = false := by
    intro q
    induction q with
    | zero => exact Or.inr fun k hk => by omega
    | succ q ih =>
      rcases ih with ⟨a, h1, h2, h3⟩ | h
      · exact Or.inl ⟨a, by omega, h2, h3⟩
      · rcases hb : Ma.isRow m q n with _ | _
        · exact Or.inr fun k hk => by
            by_cases e : k = q
            · rw [e]; exact hb
            · exact h k (by omega)
        · exact Or.inl ⟨q, by omega, hb, h⟩
  rcases key (65 - n) with ⟨a, h1, h2, h3⟩ | h
  · exact Or.inl ⟨a, by omega, h2, h3⟩
  · exact Or.inr fun k hk => h k (by omega)

theorem runs_walk (m : Nat) (n : Int) (w : World) (hm : m < 18446744073709551616) (hn : n < 9223372036854775808) (hT : TabAt w) :
    Calls Tryd.prog 13 #[.int .u64 m, .int .i64 n] w fun e w' => e = .returned (.bool true) ∧ Below w.heap.size w w' := by
  by_cases h : n < 1 ∨ 64 < n
  · exact runs_out m n w h hn hT
  · obtain ⟨k, rfl⟩ := Int.eq_ofNat_of_zero_le (show 0 ≤ n by omega)
    rcases run_cases m k with ⟨a, h1, h2, h3⟩ | h2
    · exact runs_found m k a w hm (by omega) h1 h2 h3 hT
    · exact runs_none m k w hm (by omega) (by omega) h2 hT

end Go.Proofs.YtjddbbkmaifcpaaDoor
