/-
  The walk of the statement WholeSets: a set that is put into a word's fields is there, bit by bit.
-/
import Derived.Test.YtjddbbkmaifcpabMath6
import Derived.Test.YtjddbbkmaifcpabMask2
import Derived.Test.YtjddbbkmaifcpabWord1
namespace Go.Proofs.Ytjddbbkmaifcpab
open Go.RowKit

theorem low6 : Ma.popF 64 (Ma.lowN 6) = 6 := by decide

theorem has_at (m k : Nat) (n : Int) (v : Bool) (w : World) (hm : m < 18446744073709551616) (hn : n = (k : Int)) (hk : k < 64) (hv : m.testBit k = v) :
    Calls Try.prog 9 #[.int .u64 m, .int .i64 n] w fun e w' => e = .returned (.bool v) ∧ w = w' := by
  subst hn hv
  have := has_yes m (k : Int) w hm (by omega) (by omega)
  rwa [Int.toNat_natCast] at this
theorem box_dn {w w1 : World} {a b : Int} (h : w1.cell? ⟨w.heap.size, 0, none⟩ = some (.int .i64 a) ∧ w1.cell? ⟨w.heap.size, 1, none⟩ = some (.int .i64 b) ∧ w.heap.size < w1.heap.size ∧ Below w.heap.size w w1) (n : Nat) : (w1.drewN n).cell? ⟨w.heap.size, 0, none⟩ = some (.int .i64 a) ∧ (w1.drewN n).cell? ⟨w.heap.size, 1, none⟩ = some (.int .i64 b) ∧ w.heap.size < (w1.drewN n).heap.size ∧ Below w.heap.size w (w1.drewN n) := ⟨h.1, h.2.1, h.2.2.1, below_drewN h.2.2.2 n⟩
theorem box_is {w w1 : World} {a b : Int} (h : w1.cell? ⟨w.heap.size, 0, none⟩ = some (.int .i64 a) ∧ w1.cell? ⟨w.heap.size, 1, none⟩ = some (.int .i64 b) ∧ w.heap.size < w1.heap.size ∧ Below w.heap.size w w1) : w1.cell? ⟨w.heap.size, 0, none⟩ = some (.int .i64 a) ∧ w1.cell? ⟨w.heap.size, 1, none⟩ = some (.int .i64 b) ∧ w.heap.size < w1.heap.size ∧ Below w.heap.size w w1 := h
theorem has_q {m k : Nat} {n : Int} {v : Bool} {w : World} (hm : m < 18446744073709551616) (hn : n = (k : Int)) (hk : k < 64) (hv : m.testBit k = v) :
    Calls Try.prog 9 #[.int .u64 m, .int .i64 n] w fun e w' => e = .returned (.bool v) ∧ w' = w :=
  (has_at m k n v w hm hn hk hv).mono fun _ _ ⟨he, hw⟩ => ⟨he, hw.symm⟩
theorem count_q {m c : Nat} {w : World} (hm : m < 18446744073709551616) (hc : Ma.popF 64 m = c) :
    Calls Try.prog 5 #[.int .u64 m] w fun e w' => e = .returned (.int .i64 (c : Int)) ∧ w' = w := by
  subst hc
  exact (count_any m w hm).mono fun _ _ ⟨he, hw⟩ => ⟨he, hw.symm⟩
theorem with_at (m k : Nat) (w : World) (hm : m < 18446744073709551616) (hk : k < 64) :
    Calls Try.prog 10 #[.int .u64 m, .int .i64 (k : Int)] w fun e w' => e = .returned (.int .u64 (Ma.withN m k : Nat)) ∧ w = w' := by
  have := with_yes m (k : Int) w hm (by omega) (by omega)
  rwa [Int.toNat_natCast] at this
theorem low_at (k : Nat) (w : World) (hk : k ≤ 64) :
    Calls Try.prog 4 #[.int .i64 (k : Int)] w fun e w' => e = .returned (.int .u64 (Ma.lowN k : Nat)) ∧ w = w' := by
  have := low_yes (k : Int) w (by omega) (by omega)
  rwa [Int.toNat_natCast] at this
theorem put_one (i : Nat) (w : World) (hi : i < 64) :
    Calls Try.prog 7 #[.agg #[.int .i64 (i : Int), .int .i64 1], .int .u64 0, .int .u64 1] w fun e w' => e = .returned (.tuple #[.int .u64 (Ma.withN 0 i : Nat), .bool true]) ∧ Below w.heap.size w w' := by
  have := put_yes 0 1 i 1 w Ma.zero_lt64 (by unfold okF; omega) (by decide)
  rw [Ma.one_with i hi] at this
  exact this

set_option maxRecDepth 20000 in
set_option maxHeartbeats 2000000 in
theorem sets_no (m x y : Nat) (w : World) (hx : x < 256) (hy : y < 256) (h : ¬ okF ((x : Int) % 64) (1 + (y : Int) % 64)) :
    Calls Try.prog 3 #[.int .u64 m, .int .u8 x, .int .u8 y] w fun e w' => e = .returned (.bool true) ∧ Below w.heap.size w w' := by
  have x1 : (x : Int) < 256 := by omega
  have y1 : (y : Int) < 256 := by omega
  have HO := Lib.hid h
  have H6 := Lib.hid low6
  clear h
  go_enter Try.func3, Try.ntmps3
  go_wp2_with fail
  refine (low_yes _ _ (by decide) (by decide)).mono ?_
  rintro e w' ⟨rfl, rfl⟩
  go_wp2_with fail
  refine (count_any _ _ (by decide)).mono ?_
  rintro e w' ⟨rfl, rfl⟩
  rw [H6.out]
  go_wp2_with fail
  refine (right_no _ _ _ HO.out).mono ?_
  rintro e w1 ⟨rfl, hb⟩
  obtain ⟨hc0, hc1, hlt, hbw⟩ := box_cells (by simpa using hb)
  clear hb
  go_wp2_with fail
  refine (put_no 0 1 _ _ _ HO.out).mono ?_
  rintro e w2 ⟨rfl, hb⟩
  obtain ⟨hd0, hd1, hlt2, hbw2⟩ := box_keep ⟨hc0, hc1, hlt, hbw⟩ hb
  clear hb hc0 hc1 hlt hbw
  go_wp2_with fail
  go_ret
  exact ⟨rfl, hbw2⟩

set_option maxRecDepth 20000 in
set_option maxHeartbeats 2000000 in
theorem sets_yes (m x y a b : Nat) (w : World) (hm : m < 18446744073709551616) (hx : x < 256) (hy : y < 256) (ha : (x : Int) % 64 = a) (hb : 1 + (y : Int) % 64 = b) (h : okF a b) :
    Calls Try.prog 3 #[.int .u64 m, .int .u8 x, .int .u8 y] w fun e w' => e = .returned (.bool true) ∧ Below w.heap.size w w' := by
  have x1 : (x : Int) < 256 := by omega
  have y1 : (y : Int) < 256 := by omega
  have hab : a + b ≤ 64 := by unfold okF at h; omega
  have hb1 : 1 ≤ b := by unfold okF at h; omega
  have HO := Lib.hid h
  have H6 := Lib.hid low6
  have HA := Lib.hid ha
  have HB := Lib.hid hb
  clear h ha hb
  go_enter Try.func3, Try.ntmps3
  go_wp2_with fail
  refine (low_yes _ _ (by decide) (by decide)).mono ?_
  rintro e w' ⟨rfl, rfl⟩
  go_wp2_with fail
  refine (count_any _ _ (by decide)).mono ?_
  rintro e w' ⟨rfl, rfl⟩
  rw [H6.out]
  go_wp2_with fail
  rw [HA.out, HB.out]
  refine (right_yes _ _ _ HO.out).mono ?_
  rintro e w1 ⟨rfl, hb⟩
  obtain ⟨hc0, hc1, hlt, hbw⟩ := box_cells (by simpa using hb)
  clear hb
  go_wp2_with fail
  refine (get_yes _ _ _ _ hm HO.out).mono ?_
  rintro e w2 ⟨rfl, hb⟩
  obtain ⟨hd0, hd1, hlt2, hbw2⟩ := box_keep ⟨hc0, hc1, hlt, hbw⟩ hb
  clear hb hc0 hc1 hlt hbw
  go_wp2_with fail
  have hG := Ma.getN_lt a b hm
  have HT := Lib.hid (fun i => Ma.testBit_getN m a b i)
  have HC := Lib.hid (Ma.count_field m a b hab)
  generalize Ma.getN m a b = g at hG HT HC ⊢
  go_loopw [42] (fun t wr => ∃ i : Nat, i ≤ 64 ∧ t = .int .i64 i ∧ wr.cell? ⟨w.heap.size, 0, none⟩ = some (.int .i64 (a : Int)) ∧ wr.cell? ⟨w.heap.size, 1, none⟩ = some (.int .i64 (b : Int)) ∧ w.heap.size < wr.heap.size ∧ Below w.heap.size w wr) (fun t _ => 64 - (intOf t).toNat)
  case atStart => exact ⟨0, by omega, rfl, hd0, hd1, hlt2, hbw2⟩
  case round =>
    clear hd0 hd1 hlt2 hbw2
    obtain ⟨i, hi, rfl, hd0, hd1, hlt2, hbw2⟩ := hrel
    by_cases hl : i < 64
    · have l1 : (i : Int) < 64 := by omega
      by_cases hib : i < b
      · have l2 : (i : Int) < (b : Int) := by omega
        have e1 : g.testBit i = m.testBit (a + i) := by rw [HT.out]; simp [hib]
        rcases hv : m.testBit (a + i) with _ | _
        all_goals
          rw [hv] at e1
          have E1 := Lib.hid e1
          have HV := Lib.hid hv
          clear e1 hv
          go_wp2_with fail
          go_quiet ((first | (go_at_call_of 9 (Value.int IntKind.u64 (g : Int)); exact Calls.quiet_of_same (has_q hG rfl hl E1.out)) | (go_at_call_of 9 (Value.int IntKind.u64 (m : Int)); exact Calls.quiet_of_same (has_q (k := a + i) hm (by omega) (by omega) HV.out))))
          go_wp2_with fail
          have D0 := box_dn ⟨hd0, hd1, hlt2, hbw2⟩ nq
          clear hd0 hd1 hlt2 hbw2
          refine (put_one i _ hl).mono ?_
          rintro e w4 ⟨rfl, hb⟩
          obtain ⟨hc0, hc1, hlt, hbw⟩ := box_keep D0 hb
          clear hb D0
          have HW := Ma.withN_lt Ma.zero_lt64 hl
          go_wp2_with fail
          refine (with_at 0 _ _ Ma.zero_lt64 hl).mono ?_
          rintro e w' ⟨rfl, rfl⟩
          go_wp2_with fail
          go_roundw
          case rel => exact ⟨i + 1, by omega, by go_num, hc0, hc1, hlt, hbw⟩
          case measure => simp [intOf]; omega
      · have l2 : decide ((i : Int) < (b : Int)) = false := by simp; omega
        have E1 : Hid (g.testBit i = false) := by show g.testBit i = false; rw [HT.out]; simp [hib]
        go_wp2_with fail
        go_quiet ((go_at_call 9; exact Calls.quiet_of_same (has_q hG rfl hl E1.out)))
        go_wp2_with fail
        have D0 := box_dn ⟨hd0, hd1, hlt2, hbw2⟩ nq
        clear hd0 hd1 hlt2 hbw2
        refine (put_one i _ hl).mono ?_
        rintro e w4 ⟨rfl, hb⟩
        obtain ⟨hc0, hc1, hlt, hbw⟩ := box_keep D0 hb
        clear hb D0
        have HW := Ma.withN_lt Ma.zero_lt64 hl
        go_wp2_with fail
        refine (with_at 0 _ _ Ma.zero_lt64 hl).mono ?_
        rintro e w' ⟨rfl, rfl⟩
        go_wp2_with fail
        go_roundw
        case rel => exact ⟨i + 1, by omega, by go_num, hc0, hc1, hlt, hbw⟩
        case measure => simp [intOf]; omega
    · obtain rfl : i = 64 := by omega
      have HP := Lib.hid (fun w => put_yes 0 (Ma.lowN b) a b w Ma.zero_lt64 HO.out (Ma.lowN_lt_pow b))
      have HX := Ma.putN_lt Ma.zero_lt64 (Ma.lowN_lt_pow b) hab
      have hk := Ma.and_key m _ hm HX
      have HY : m &&& Ma.putN 0 (Ma.lowN b) a b < 18446744073709551616 := Nat.lt_of_le_of_lt Nat.and_le_left hm
      generalize Ma.putN 0 (Ma.lowN b) a b = P at HP HX hk HY HC
      generalize m &&& P = Q at hk HY HC
      have HLW := Ma.lowN_lt (show b ≤ 64 by omega)
      go_wp2_with fail
      go_region_held3 (fun w' => w'.cell? ⟨w.heap.size, 0, none⟩ = some (.int .i64 (a : Int)) ∧ w'.cell? ⟨w.heap.size, 1, none⟩ = some (.int .i64 (b : Int)) ∧ w.heap.size < w'.heap.size ∧ Below w.heap.size w w') (first | exact ⟨hd0, hd1, hlt2, hbw2.drew⟩ | exact box_keep (by assumption) hbl | assumption) (first | (go_at_call 4; refine (low_at b _ (by omega)).mono ?_; rintro e w4 ⟨rfl, rfl⟩) | (go_at_call 7; refine (HP.out _).mono ?_; rintro e w4 ⟨rfl, hbl⟩))
      all_goals
        obtain ⟨hc0, hc1, hlt, hbw⟩ := box_is (by assumption)
        go_wp2_with fail
        refine (count_any g _ hG).mono ?_
        rintro e w' ⟨rfl, rfl⟩
        go_wp2_with fail
        refine (count_any Q _ HY).mono ?_
        rintro e w' ⟨rfl, rfl⟩
        rw [HC.out]
        generalize Ma.popF 64 g = c
        go_wp2_with fail
        go_ret
        exact ⟨rfl, hbw⟩

theorem sets_walk (m x y : Nat) (w : World) (hm : m < 18446744073709551616) (hx : x < 256) (hy : y < 256) :
    Calls Try.prog 3 #[.int .u64 m, .int .u8 x, .int .u8 y] w fun e w' => e = .returned (.bool true) ∧ Below w.heap.size w w' := by
  by_cases h : okF ((x : Int) % 64) (1 + (y : Int) % 64)
  · exact sets_yes m x y (x % 64) (1 + y % 64) w hm hx hy (by omega) (by omega) (by unfold okF at *; omega)
  · exact sets_no m x y w hx hy h

end Go.Proofs.Ytjddbbkmaifcpab
