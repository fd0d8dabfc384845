/-
  The walk of the statement MaskParts: the least numbers of any set, the lowest of all, and the first row, are the document's.
-/
import Derived.Test.YtjddbbkmaifcpaaDoorRef3
namespace Go.Proofs.YtjddbbkmaifcpaaDoor
open Go.RowKit

theorem RunIs.unique {m n : Nat} {z z' : Int} (h : RunIs m n z) (h' : RunIs m n z') : z = z' := by
  rcases h with ⟨a, rfl, h1, h2, h3⟩ | ⟨rfl, h1⟩ <;> rcases h' with ⟨b, rfl, k1, k2, k3⟩ | ⟨rfl, k1⟩
  · rcases Nat.lt_trichotomy a b with h | h | h
    · rw [k3 a h] at h2; cases h2
    · rw [h]
    · rw [h3 b h] at k2; cases k2
  · rw [k1 a h1] at h2; cases h2
  · rw [h1 b k1] at k2; cases k2
  · rfl

theorem mem_all : Ma.mem 18446744073709551615 = List.range 64 := by decide +kernel
theorem least_all (k : Nat) : Ma.leastN 18446744073709551615 k = Ma.lowN (min k 64) := by
  apply Nat.eq_of_testBit_eq
  intro i
  unfold Ma.leastN
  rw [Ma.testBit_lowN, Ma.testBit_ofList, mem_all, List.take_range]
  simp

/-- What the end of MaskParts asks of Low: each way's number is the document's. -/
theorem low_says (n : Int) (w : World) : Calls Tryd.prog 37 #[.int .i64 n] w fun e w' => e = .returned (.int .u64 (Ma.leastN 18446744073709551615 n.toNat : Nat)) ∧ w = w' := by
  rw [least_all]
  by_cases h0 : n < 0
  · rw [show min n.toNat 64 = 0 from by omega]
    exact low_neg n w h0
  · by_cases h1 : n ≤ 64
    · rw [show min n.toNat 64 = n.toNat from by omega]
      exact low_yes n w (by omega) h1
    · rw [show min n.toNat 64 = 64 from by omega]
      exact low_big n w (by omega)

set_option maxHeartbeats 1000000 in
theorem parts_found (m n a : Nat) (w : World) (hm : m < 18446744073709551616) (hn : 1 ≤ n) (ha : a + n ≤ 64) (hrow : Hid (Ma.isRow m a n = true)) (hno : Hid (∀ k, k < a → Ma.isRow m k n = false)) (hT : Hid (TabAt w)) :
    Calls Tryd.prog 10 #[.int .u64 m, .int .i64 n] w fun e w' => e = .returned (.bool true) ∧ Below w.heap.size w w' := by
  go_enter Tryd.func10, Tryd.ntmps10
  go_wp2_with fail
  refine (speaks2 _ hT).mono ?_
  rintro e w1 ⟨rfl, hb⟩
  have HB := Lib.hid hb
  have hT1 : Hid (TabAt w1) := hT.out.next hb
  clear hb
  go_wp2_with fail
  refine (run_found _ _ _ _ hm hn ha hrow hno).mono ?_
  rintro e w' ⟨rfl, rfl⟩
  go_wp2_with fail
  refine (rrun_any _ _ _ hm hn (by omega)).mono ?_
  rintro e w' ⟨z, rfl, hz, rfl⟩
  obtain rfl : z = (a : Int) := RunIs.unique hz (Or.inl ⟨a, rfl, ha, hrow, hno⟩)
  clear hz
  go_wp2_with fail
  refine (least_any _ _ _ hm (by omega) hT1).mono ?_
  rintro e w' ⟨rfl, rfl⟩
  go_wp2_with fail
  refine (rleast_any _ _ _ hm).mono ?_
  rintro e w2 ⟨rfl, hb2⟩
  have HB2 := Lib.hid hb2
  clear hb2
  go_wp2_with fail
  refine (low_says _ _).mono ?_
  rintro e w' ⟨rfl, rfl⟩
  go_wp2_with fail
  refine (rlow_any _ _).mono ?_
  rintro e w3 ⟨rfl, hb3⟩
  have HB3 := Lib.hid hb3
  clear hb3
  go_wp2_with fail
  go_ret
  exact ⟨rfl, (HB.out.trans (HB2.out.mono HB.out.size)).trans (HB3.out.mono (Nat.le_trans HB.out.size HB2.out.size))⟩

set_option maxHeartbeats 1000000 in
theorem parts_none (m : Nat) (n : Int) (w : World) (hm : m < 18446744073709551616) (hn2 : n < 9223372036854775808)
    (hrun : Hid (∀ w, Calls Tryd.prog 33 #[.int .u64 m, .int .i64 n] w fun e w' => e = .returned (.tuple #[.int .i64 0, .bool false]) ∧ w = w'))
    (hrrun : Hid (∀ w, Calls Tryd.prog 34 #[.int .u64 m, .int .i64 n] w fun e w' => e = .returned (.int .i64 (-1)) ∧ w = w')) (hT : Hid (TabAt w)) :
    Calls Tryd.prog 10 #[.int .u64 m, .int .i64 n] w fun e w' => e = .returned (.bool true) ∧ Below w.heap.size w w' := by
  go_enter Tryd.func10, Tryd.ntmps10
  go_wp2_with fail
  refine (speaks2 _ hT).mono ?_
  rintro e w1 ⟨rfl, hb⟩
  have HB := Lib.hid hb
  have hT1 : Hid (TabAt w1) := hT.out.next hb
  clear hb
  go_wp2_with fail
  refine (hrun.out _).mono ?_
  rintro e w' ⟨rfl, rfl⟩
  go_wp2_with fail
  refine (hrrun.out _).mono ?_
  rintro e w' ⟨rfl, rfl⟩
  go_wp2_with fail
  refine (least_any _ _ _ hm hn2 hT1).mono ?_
  rintro e w' ⟨rfl, rfl⟩
  go_wp2_with fail
  refine (rleast_any _ _ _ hm).mono ?_
  rintro e w2 ⟨rfl, hb2⟩
  have HB2 := Lib.hid hb2
  clear hb2
  go_wp2_with fail
  refine (low_says _ _).mono ?_
  rintro e w' ⟨rfl, rfl⟩
  go_wp2_with fail
  refine (rlow_any _ _).mono ?_
  rintro e w3 ⟨rfl, hb3⟩
  have HB3 := Lib.hid hb3
  clear hb3
  go_wp2_with fail
  go_ret
  exact ⟨rfl, (HB.out.trans (HB2.out.mono HB.out.size)).trans (HB3.out.mono (Nat.le_trans HB.out.size HB2.out.size))⟩

theorem rrun_none (m n : Nat) (w : World) (hm : m < 18446744073709551616) (hn : 1 ≤ n) (hn2 : n < 9223372036854775808) (hno : ∀ k, k + n ≤ 64 → Ma.isRow m k n = false) :
    Calls Tryd.prog 34 #[.int .u64 m, .int .i64 n] w fun e w' => e = .returned (.int .i64 (-1)) ∧ w = w' := by
  refine (rrun_any m n w hm hn hn2).mono ?_
  rintro e w' ⟨z, rfl, hz, rfl⟩
  exact ⟨by rw [RunIs.unique hz (Or.inr ⟨rfl, hno⟩)], rfl⟩

theorem parts_walk (m : Nat) (n : Int) (w : World) (hm : m < 18446744073709551616) (hn : n < 9223372036854775808) (hT : TabAt w) :
    Calls Tryd.prog 10 #[.int .u64 m, .int .i64 n] w fun e w' => e = .returned (.bool true) ∧ Below w.heap.size w w' := by
  by_cases h : n < 1
  · exact parts_none m n w hm hn (fun w => run_few m n w h) (fun w => rrun_few m n w h) hT
  · obtain ⟨k, rfl⟩ := Int.eq_ofNat_of_zero_le (show 0 ≤ n by omega)
    by_cases h64 : k ≤ 64
    · rcases run_cases m k with ⟨a, h1, h2, h3⟩ | h2
      · exact parts_found m k a w hm (by omega) h1 h2 h3 hT
      · exact parts_none m k w hm hn (fun w => run_none m k w hm (by omega) h64 h2) (fun w => rrun_none m k w hm (by omega) (by omega) h2) hT
    · exact parts_none m k w hm hn (fun w => run_many m k w (by omega) hn) (fun w => rrun_none m k w hm (by omega) (by omega) (fun q hq => by omega)) hT

end Go.Proofs.YtjddbbkmaifcpaaDoor
