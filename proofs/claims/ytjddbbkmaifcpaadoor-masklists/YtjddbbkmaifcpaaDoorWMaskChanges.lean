/-
  The walk of the statement MaskChanges: with a number, or without it, a set is the document's; and back.
-/
import Derived.Test.YtjddbbkmaifcpaaDoorMask6
import Derived.Deep.RegionWith
namespace Go.Proofs.YtjddbbkmaifcpaaDoor
open Go.RowKit

theorem has_is (m i : Nat) (b : Bool) (w : World) (hm : m < 18446744073709551616) (h1 : i < 64) (hb : m.testBit i = b) :
    Calls Tryd.prog 29 #[.int .u64 m, .int .i64 i] w fun e w' => e = .returned (.bool b) ∧ w = w' := by
  have := has_yes m i w hm (by omega) (by omega)
  rw [Int.toNat_natCast, hb] at this
  exact this

theorem with_nat (m k : Nat) (w : World) (hm : m < 18446744073709551616) (h1 : k < 64) :
    Calls Tryd.prog 39 #[.int .u64 m, .int .i64 k] w fun e w' => e = .returned (.int .u64 (Ma.withN m k : Nat)) ∧ w = w' := with_yes m k w hm (by omega) (by omega)
theorem without_nat (m k : Nat) (w : World) (hm : m < 18446744073709551616) (h1 : k < 64) :
    Calls Tryd.prog 40 #[.int .u64 m, .int .i64 k] w fun e w' => e = .returned (.int .u64 (Ma.withoutN m k : Nat)) ∧ w = w' := without_yes m k w hm (by omega) (by omega)

theorem back_without (m k : Nat) (hm : m < 18446744073709551616) (h : k < 64) : Ma.withoutN (Ma.withN m k) k = Ma.withoutN m k := by
  refine Ma.word_ext (Ma.withoutN_lt _ (Ma.withN_lt hm h)) (Ma.withoutN_lt _ hm) fun i _ => ?_
  rw [Ma.testBit_withoutN (Ma.withN_lt hm h) h, Ma.testBit_withN, Ma.testBit_withoutN hm h]
  cases m.testBit i <;> cases decide (k = i) <;> rfl
theorem back_with (m k : Nat) (hm : m < 18446744073709551616) (h : k < 64) : Ma.withN (Ma.withoutN m k) k = Ma.withN m k := by
  refine Ma.word_ext (Ma.withN_lt (Ma.withoutN_lt _ hm) h) (Ma.withN_lt hm h) fun i _ => ?_
  rw [Ma.testBit_withN, Ma.testBit_withoutN hm h, Ma.testBit_withN]
  cases m.testBit i <;> cases decide (k = i) <;> rfl

set_option maxHeartbeats 1000000 in
theorem changes_out (m : Nat) (n : Int) (w : World) (h : n < 0 ∨ 64 ≤ n) (hT : Hid (TabAt w)) :
    Calls Tryd.prog 11 #[.int .u64 m, .int .i64 n] w fun e w' => e = .returned (.bool true) ∧ Below w.heap.size w w' := by
  rcases h with h | h
  · go_enter Tryd.func11, Tryd.ntmps11
    go_wp2_with fail
    refine (speaks2 _ hT).mono ?_
    rintro e w1 ⟨rfl, hb⟩
    have HB := Lib.hid hb
    clear hb
    go_wp2_with fail
    refine (with_no _ _ _ (by omega)).mono ?_
    rintro e w' ⟨rfl, rfl⟩
    go_wp2_with fail
    refine (without_no _ _ _ (by omega)).mono ?_
    rintro e w' ⟨rfl, rfl⟩
    go_wp2
    go_ret
    exact ⟨rfl, HB.out⟩
  · have h0 : ¬ n < 0 := by omega
    have h1 : (63 : Int) < n := by omega
    go_enter Tryd.func11, Tryd.ntmps11
    go_wp2_with fail
    refine (speaks2 _ hT).mono ?_
    rintro e w1 ⟨rfl, hb⟩
    have HB := Lib.hid hb
    clear hb
    go_wp2_with fail
    refine (with_no _ _ _ (by omega)).mono ?_
    rintro e w' ⟨rfl, rfl⟩
    go_wp2_with fail
    refine (without_no _ _ _ (by omega)).mono ?_
    rintro e w' ⟨rfl, rfl⟩
    go_wp2
    go_ret
    exact ⟨rfl, HB.out⟩

set_option maxHeartbeats 1000000 in
theorem changes_in (m k : Nat) (w : World) (hm : m < 18446744073709551616) (hk : k < 64) (hT : Hid (TabAt w)) :
    Calls Tryd.prog 11 #[.int .u64 m, .int .i64 k] w fun e w' => e = .returned (.bool true) ∧ Below w.heap.size w w' := by
  have h1 : ¬ (63 : Int) < k := by omega
  go_enter Tryd.func11, Tryd.ntmps11
  go_wp2_with fail
  refine (speaks2 _ hT).mono ?_
  rintro e w1 ⟨rfl, hb⟩
  have HB := Lib.hid hb
  clear hb
  go_wp2_with fail
  refine (with_nat _ _ _ hm hk).mono ?_
  rintro e w' ⟨rfl, rfl⟩
  go_wp2_with fail
  refine (without_nat _ _ _ hm hk).mono ?_
  rintro e w' ⟨rfl, rfl⟩
  have hA := Ma.withN_lt hm hk
  have hB := Ma.withoutN_lt k hm
  have HTA := Lib.hid (Ma.testBit_withN m k)
  have HTB := Lib.hid (fun i => Ma.testBit_withoutN hm hk i)
  have HBA := Lib.hid (back_without m k hm hk)
  have HBB := Lib.hid (back_with m k hm hk)
  generalize Ma.withN m k = A at *
  generalize Ma.withoutN m k = B at *
  go_wp2_with fail
  go_loop [32] (fun t => ∃ i : Nat, i ≤ 64 ∧ t = .int .i64 i) (fun t => 64 - (intOf t).toNat)
  case atStart => exact ⟨0, Nat.zero_le _, rfl⟩
  case round =>
    obtain ⟨i, hi, rfl⟩ := hrel
    by_cases hlt : i < 64
    · have tA := HTA.out i
      have tB := HTB.out i
      have hlt' : (i : Int) < 64 := by omega
      by_cases hik : k = i
      · subst hik
        rcases hmb : m.testBit k with _ | _
        all_goals
          rw [hmb] at tA tB
          simp at tA tB
          have TA := Lib.hid tA
          have TB := Lib.hid tB
          have TM := Lib.hid hmb
          clear tA tB hmb
          go_wp2_with (first | (go_at_call_of 29 (Value.int IntKind.u64 (A : Int)); refine (has_is _ _ _ _ hA hlt TA.out).mono ?_; rintro e w' ⟨rfl, rfl⟩) | (go_at_call_of 29 (Value.int IntKind.u64 (B : Int)); refine (has_is _ _ _ _ hB hlt TB.out).mono ?_; rintro e w' ⟨rfl, rfl⟩) | (go_at_call_of 29 (Value.int IntKind.u64 (m : Int)); refine (has_is _ _ _ _ hm hlt TM.out).mono ?_; rintro e w' ⟨rfl, rfl⟩))
          go_round
          case rel => exact ⟨k + 1, by omega, by go_num⟩
          case measure => simp [intOf]; omega
      · have e1 : (i == k) = false := by simp; omega
        have e2 : (i != k) = true := by simp; omega
        have e3 : ((i : Int) == (k : Int)) = false := by simp; omega
        have e4 : ((i : Int) != (k : Int)) = true := by simp; omega
        rcases hmb : m.testBit i with _ | _
        all_goals
          rw [hmb] at tA tB
          simp [hik] at tA tB
          have TA := Lib.hid tA
          have TB := Lib.hid tB
          have TM := Lib.hid hmb
          have HN := Lib.hid hik
          clear tA tB hmb hik
          go_wp2_with (first | (go_at_call_of 29 (Value.int IntKind.u64 (A : Int)); refine (has_is _ _ _ _ hA hlt TA.out).mono ?_; rintro e w' ⟨rfl, rfl⟩) | (go_at_call_of 29 (Value.int IntKind.u64 (B : Int)); refine (has_is _ _ _ _ hB hlt TB.out).mono ?_; rintro e w' ⟨rfl, rfl⟩) | (go_at_call_of 29 (Value.int IntKind.u64 (m : Int)); refine (has_is _ _ _ _ hm hlt TM.out).mono ?_; rintro e w' ⟨rfl, rfl⟩))
          go_round
          case rel => exact ⟨i + 1, by omega, by go_num⟩
          case measure => simp [intOf]; omega
    · have hge : ¬ (i : Int) < 64 := by omega
      go_wp2_with fail
      refine (without_nat _ _ _ hA hk).mono ?_
      rintro e w' ⟨rfl, rfl⟩
      rw [HBA.out]
      go_wp2_with fail
      refine (with_nat _ _ _ hB hk).mono ?_
      rintro e w' ⟨rfl, rfl⟩
      rw [HBB.out]
      go_wp2_with fail
      go_ret
      exact ⟨rfl, HB.out⟩

theorem changes_walk (m : Nat) (n : Int) (w : World) (hm : m < 18446744073709551616) (hT : TabAt w) :
    Calls Tryd.prog 11 #[.int .u64 m, .int .i64 n] w fun e w' => e = .returned (.bool true) ∧ Below w.heap.size w w' := by
  by_cases h : n < 0 ∨ 64 ≤ n
  · exact changes_out m n w h hT
  · obtain ⟨k, rfl⟩ := Int.eq_ofNat_of_zero_le (show 0 ≤ n by omega)
    exact changes_in m k w hm (by omega) hT

end Go.Proofs.YtjddbbkmaifcpaaDoor
