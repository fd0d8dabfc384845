/-
  The walk of the statement WordRefs: a Ref that may be is its word's, and no other word's; one that may not be has none.
-/
import Derived.Test.YtjddbbkmaifcpaaDoorWord4
import Derived.Test.YtjddbbkmaifcpaaDoorMath5
namespace Go.Proofs.YtjddbbkmaifcpaaDoor
open Go.RowKit

/-- A Ref that may be: To of its word. -/
theorem to_back (x y z : Nat) (w : World) (hx : x < 256) (hy : y < 256) (hz : z < 4294967296) (hR : Hid (RefAt w)) :
    Calls Tryd.prog 25 #[.int .u64 (ofR x y z : Nat)] w fun e w' => e = .returned (.tuple #[.agg #[.int .i64 x, .int .i64 y, .int .i64 z], .bool true]) ∧ Below w.heap.size w w' := by
  obtain ⟨h2, h3, h4⟩ := to_of x y z hx hy hz
  refine (to_any (ofR x y z) w (ofR_lt _ _ _) hR).mono ?_
  rintro e w' ⟨ha, _, hb⟩
  rw [h2, h3, h4] at ha
  exact ⟨ha rfl, hb⟩

theorem mark_int : (9223372036854775808 : Int) = ((mark : Nat) : Int) := rfl

set_option maxRecDepth 20000 in
set_option maxHeartbeats 2000000 in
theorem refs_may (x y z m : Nat) (w : World) (hx : x < 256) (hy : y < 256) (hz : z < 4294967296) (hm : m < 18446744073709551616) (hR : Hid (RefAt w)) :
    Calls Tryd.prog 6 #[.agg #[.int .i64 x, .int .i64 y, .int .i64 z], .int .u64 m] w fun e w' => e = .returned (.bool true) ∧ Below w.heap.size w w' := by
  have hRb : Hid (RefAt (w.alloc (.cells #[.int .i64 (x : Int), .int .i64 (y : Int), .int .i64 (z : Int)] 40))) := hR.out.next (belowBox _ _)
  have x1 : (x : Int) < 256 := by omega
  have y1 : (y : Int) < 256 := by omega
  have z1 : (z : Int) < 4294967296 := by omega
  go_enter Tryd.func6, Tryd.ntmps6
  rw [mark_int]
  have kk := Lib.hid (or_int x y z hx hy hz)
  have k1 := Lib.hid (@no63 m hm)
  have k2 := Lib.hid (@has63 m hm)
  have hM := mark_lt
  generalize mark = M at kk k1 k2 hM ⊢
  go_wp2_with fail
  refine (speaks1 _ hRb).mono ?_
  rintro e w1 ⟨rfl, hb⟩
  have T1 := (Three.new w x y z 40).next hb (by simp)
  have B1 := Lib.hid (below_next (belowBox w _) hb)
  have R1 : Hid (RefAt w1) := hR.out.next B1.out
  clear hb
  obtain ⟨t0, t1, t2, f0, f1, f2⟩ := T1
  go_wp2_with fail
  refine (of_any _ _ _ _ R1).mono ?_
  rintro e w2 ⟨rfl, hb⟩
  have T2 := Three.next ⟨t0, t1, t2, f0, f1, f2⟩ hb (Three.lt ⟨t0, t1, t2, f0, f1, f2⟩)
  have B2 := Lib.hid (below_next B1.out hb)
  have R2 : Hid (RefAt w2) := hR.out.next B2.out
  clear hb t0 t1 t2 f0 f1 f2
  obtain ⟨t0, t1, t2, f0, f1, f2⟩ := T2
  go_wp2_with fail
  refine (to_back _ _ _ _ hx hy hz R2).mono ?_
  rintro e w3 ⟨rfl, hb⟩
  have T3 := Three.next ⟨t0, t1, t2, f0, f1, f2⟩ hb (Three.lt ⟨t0, t1, t2, f0, f1, f2⟩)
  have B3 := Lib.hid (below_next B2.out hb)
  have R3 : Hid (RefAt w3) := hR.out.next B3.out
  clear hb t0 t1 t2 f0 f1 f2
  have hlt := T3.lt
  have B4 := Lib.hid (below_next B3.out (belowBox _ (.cells #[.int .i64 (x : Int), .int .i64 (y : Int), .int .i64 (z : Int)] 40)))
  have R4 : Hid (RefAt _) := hR.out.next B4.out
  obtain ⟨t0, t1, t2, f0, f1, f2⟩ := T3
  go_wp2_with (simp only [kk.out])
  refine (to_any m _ hm R4).mono ?_
  rintro e w5 ⟨ha, hn, hb⟩
  have B5 := Lib.hid (below_next B4.out hb)
  have R5 : Hid (RefAt w5) := hR.out.next B5.out
  clear hb
  by_cases hc : ofR (toX m) (toY m) (toZ m) = m
  · cases ha hc
    have B6 := Lib.hid (below_next B5.out (belowBox _ (.cells #[.int .i64 (toX m : Int), .int .i64 (toY m : Int), .int .i64 (toZ m : Int)] 40)))
    have R6 : Hid (RefAt _) := hR.out.next B6.out
    go_wp2_with fail
    refine (of_any _ _ _ _ R6).mono ?_
    rintro e w6 ⟨rfl, hb⟩
    rw [hc]
    have B7 := Lib.hid (below_next B6.out hb)
    clear hb
    go_wp2_with fail
    go_ret
    exact ⟨rfl, B7.out⟩
  · cases hn hc
    have B6 := Lib.hid (below_next B5.out (belowBox _ (.cells #[.int .i64 0, .int .i64 0, .int .i64 0] 40)))
    rcases h63 : m.testBit 63 with _ | _
    · have k3 := k1.out h63
      go_wp2_with fail
      go_ret
      exact ⟨rfl, B6.out⟩
    · have k3 := k2.out h63
      obtain ⟨i, hi, hb⟩ := (none_of m hm hc).resolve_left (by rw [h63]; simp)
      have k4 := hi15 hm hi hb
      go_wp2_with fail
      go_ret
      exact ⟨rfl, B6.out⟩

set_option maxRecDepth 20000 in
set_option maxHeartbeats 4000000 in
theorem refs_no (x y z : Int) (m : Nat) (w : World) (h0 : ofR x y z = 0) (h : x < 0 ∨ 256 ≤ x ∨ y < 0 ∨ 256 ≤ y ∨ z < 0 ∨ 4294967296 ≤ z) (hm : m < 18446744073709551616) (hR : Hid (RefAt w)) :
    Calls Tryd.prog 6 #[.agg #[.int .i64 x, .int .i64 y, .int .i64 z], .int .u64 m] w fun e w' => e = .returned (.bool true) ∧ Below w.heap.size w w' := by
  have hRb : Hid (RefAt (w.alloc (.cells #[.int .i64 (x : Int), .int .i64 (y : Int), .int .i64 (z : Int)] 40))) := hR.out.next (belowBox _ _)
  go_enter Tryd.func6, Tryd.ntmps6
  rw [mark_int]
  have k1 := Lib.hid (@no63 m hm)
  have k2 := Lib.hid (@has63 m hm)
  have hM := mark_lt
  generalize mark = M at k1 k2 hM ⊢
  go_wp2_with fail
  refine (speaks1 _ hRb).mono ?_
  rintro e w1 ⟨rfl, hb⟩
  have T1 := (Three.new w x y z 40).next hb (by simp)
  have B1 := Lib.hid (below_next (belowBox w _) hb)
  have R1 : Hid (RefAt w1) := hR.out.next B1.out
  clear hb
  obtain ⟨t0, t1, t2, f0, f1, f2⟩ := T1
  go_wp2_with fail
  refine (of_any _ _ _ _ R1).mono ?_
  rintro e w2 ⟨rfl, hb⟩
  rw [h0]
  have T2 := Three.next ⟨t0, t1, t2, f0, f1, f2⟩ hb (Three.lt ⟨t0, t1, t2, f0, f1, f2⟩)
  have B4 := Lib.hid (below_next B1.out hb)
  have R4 : Hid (RefAt w2) := hR.out.next B4.out
  clear hb t0 t1 t2 f0 f1 f2
  obtain ⟨t0, t1, t2, f0, f1, f2⟩ := T2
  rcases Int.lt_or_le x 0 with c1 | c1
  · go_wp2_with fail
    refine (to_any m _ hm R4).mono ?_
    rintro e w5 ⟨ha, hn, hb⟩
    have B5 := Lib.hid (below_next B4.out hb)
    have R5 : Hid (RefAt w5) := hR.out.next B5.out
    clear hb
    by_cases hc : ofR (toX m) (toY m) (toZ m) = m
    · cases ha hc
      have B6 := Lib.hid (below_next B5.out (belowBox _ (.cells #[.int .i64 (toX m : Int), .int .i64 (toY m : Int), .int .i64 (toZ m : Int)] 40)))
      have R6 : Hid (RefAt _) := hR.out.next B6.out
      go_wp2_with fail
      refine (of_any _ _ _ _ R6).mono ?_
      rintro e w6 ⟨rfl, hb⟩
      rw [hc]
      have B7 := Lib.hid (below_next B6.out hb)
      clear hb
      go_wp2_with fail
      go_ret
      exact ⟨rfl, B7.out⟩
    · cases hn hc
      have B6 := Lib.hid (below_next B5.out (belowBox _ (.cells #[.int .i64 0, .int .i64 0, .int .i64 0] 40)))
      rcases h63 : m.testBit 63 with _ | _
      · have k3 := k1.out h63
        go_wp2_with fail
        go_ret
        exact ⟨rfl, B6.out⟩
      · have k3 := k2.out h63
        obtain ⟨i, hi, hb⟩ := (none_of m hm hc).resolve_left (by rw [h63]; simp)
        have k4 := hi15 hm hi hb
        go_wp2_with fail
        go_ret
        exact ⟨rfl, B6.out⟩
  rcases Int.lt_or_le x 256 with c2 | c2
  case inr =>
    go_wp2_with fail
    refine (to_any m _ hm R4).mono ?_
    rintro e w5 ⟨ha, hn, hb⟩
    have B5 := Lib.hid (below_next B4.out hb)
    have R5 : Hid (RefAt w5) := hR.out.next B5.out
    clear hb
    by_cases hc : ofR (toX m) (toY m) (toZ m) = m
    · cases ha hc
      have B6 := Lib.hid (below_next B5.out (belowBox _ (.cells #[.int .i64 (toX m : Int), .int .i64 (toY m : Int), .int .i64 (toZ m : Int)] 40)))
      have R6 : Hid (RefAt _) := hR.out.next B6.out
      go_wp2_with fail
      refine (of_any _ _ _ _ R6).mono ?_
      rintro e w6 ⟨rfl, hb⟩
      rw [hc]
      have B7 := Lib.hid (below_next B6.out hb)
      clear hb
      go_wp2_with fail
      go_ret
      exact ⟨rfl, B7.out⟩
    · cases hn hc
      have B6 := Lib.hid (below_next B5.out (belowBox _ (.cells #[.int .i64 0, .int .i64 0, .int .i64 0] 40)))
      rcases h63 : m.testBit 63 with _ | _
      · have k3 := k1.out h63
        go_wp2_with fail
        go_ret
        exact ⟨rfl, B6.out⟩
      · have k3 := k2.out h63
        obtain ⟨i, hi, hb⟩ := (none_of m hm hc).resolve_left (by rw [h63]; simp)
        have k4 := hi15 hm hi hb
        go_wp2_with fail
        go_ret
        exact ⟨rfl, B6.out⟩
  rcases Int.lt_or_le y 0 with c3 | c3
  · go_wp2_with fail
    refine (to_any m _ hm R4).mono ?_
    rintro e w5 ⟨ha, hn, hb⟩
    have B5 := Lib.hid (below_next B4.out hb)
    have R5 : Hid (RefAt w5) := hR.out.next B5.out
    clear hb
    by_cases hc : ofR (toX m) (toY m) (toZ m) = m
    · cases ha hc
      have B6 := Lib.hid (below_next B5.out (belowBox _ (.cells #[.int .i64 (toX m : Int), .int .i64 (toY m : Int), .int .i64 (toZ m : Int)] 40)))
      have R6 : Hid (RefAt _) := hR.out.next B6.out
      go_wp2_with fail
      refine (of_any _ _ _ _ R6).mono ?_
      rintro e w6 ⟨rfl, hb⟩
      rw [hc]
      have B7 := Lib.hid (below_next B6.out hb)
      clear hb
      go_wp2_with fail
      go_ret
      exact ⟨rfl, B7.out⟩
    · cases hn hc
      have B6 := Lib.hid (below_next B5.out (belowBox _ (.cells #[.int .i64 0, .int .i64 0, .int .i64 0] 40)))
      rcases h63 : m.testBit 63 with _ | _
      · have k3 := k1.out h63
        go_wp2_with fail
        go_ret
        exact ⟨rfl, B6.out⟩
      · have k3 := k2.out h63
        obtain ⟨i, hi, hb⟩ := (none_of m hm hc).resolve_left (by rw [h63]; simp)
        have k4 := hi15 hm hi hb
        go_wp2_with fail
        go_ret
        exact ⟨rfl, B6.out⟩
  rcases Int.lt_or_le y 256 with c4 | c4
  case inr =>
    go_wp2_with fail
    refine (to_any m _ hm R4).mono ?_
    rintro e w5 ⟨ha, hn, hb⟩
    have B5 := Lib.hid (below_next B4.out hb)
    have R5 : Hid (RefAt w5) := hR.out.next B5.out
    clear hb
    by_cases hc : ofR (toX m) (toY m) (toZ m) = m
    · cases ha hc
      have B6 := Lib.hid (below_next B5.out (belowBox _ (.cells #[.int .i64 (toX m : Int), .int .i64 (toY m : Int), .int .i64 (toZ m : Int)] 40)))
      have R6 : Hid (RefAt _) := hR.out.next B6.out
      go_wp2_with fail
      refine (of_any _ _ _ _ R6).mono ?_
      rintro e w6 ⟨rfl, hb⟩
      rw [hc]
      have B7 := Lib.hid (below_next B6.out hb)
      clear hb
      go_wp2_with fail
      go_ret
      exact ⟨rfl, B7.out⟩
    · cases hn hc
      have B6 := Lib.hid (below_next B5.out (belowBox _ (.cells #[.int .i64 0, .int .i64 0, .int .i64 0] 40)))
      rcases h63 : m.testBit 63 with _ | _
      · have k3 := k1.out h63
        go_wp2_with fail
        go_ret
        exact ⟨rfl, B6.out⟩
      · have k3 := k2.out h63
        obtain ⟨i, hi, hb⟩ := (none_of m hm hc).resolve_left (by rw [h63]; simp)
        have k4 := hi15 hm hi hb
        go_wp2_with fail
        go_ret
        exact ⟨rfl, B6.out⟩
  rcases Int.lt_or_le z 0 with c5 | c5
  · go_wp2_with fail
    refine (to_any m _ hm R4).mono ?_
    rintro e w5 ⟨ha, hn, hb⟩
    have B5 := Lib.hid (below_next B4.out hb)
    have R5 : Hid (RefAt w5) := hR.out.next B5.out
    clear hb
    by_cases hc : ofR (toX m) (toY m) (toZ m) = m
    · cases ha hc
      have B6 := Lib.hid (below_next B5.out (belowBox _ (.cells #[.int .i64 (toX m : Int), .int .i64 (toY m : Int), .int .i64 (toZ m : Int)] 40)))
      have R6 : Hid (RefAt _) := hR.out.next B6.out
      go_wp2_with fail
      refine (of_any _ _ _ _ R6).mono ?_
      rintro e w6 ⟨rfl, hb⟩
      rw [hc]
      have B7 := Lib.hid (below_next B6.out hb)
      clear hb
      go_wp2_with fail
      go_ret
      exact ⟨rfl, B7.out⟩
    · cases hn hc
      have B6 := Lib.hid (below_next B5.out (belowBox _ (.cells #[.int .i64 0, .int .i64 0, .int .i64 0] 40)))
      rcases h63 : m.testBit 63 with _ | _
      · have k3 := k1.out h63
        go_wp2_with fail
        go_ret
        exact ⟨rfl, B6.out⟩
      · have k3 := k2.out h63
        obtain ⟨i, hi, hb⟩ := (none_of m hm hc).resolve_left (by rw [h63]; simp)
        have k4 := hi15 hm hi hb
        go_wp2_with fail
        go_ret
        exact ⟨rfl, B6.out⟩
  have c6 : decide (z < 4294967296) = false := by rw [decide_eq_false_iff_not]; omega
  clear h
  go_wp2_with fail
  refine (to_any m _ hm R4).mono ?_
  rintro e w5 ⟨ha, hn, hb⟩
  have B5 := Lib.hid (below_next B4.out hb)
  have R5 : Hid (RefAt w5) := hR.out.next B5.out
  clear hb
  by_cases hc : ofR (toX m) (toY m) (toZ m) = m
  · cases ha hc
    have B6 := Lib.hid (below_next B5.out (belowBox _ (.cells #[.int .i64 (toX m : Int), .int .i64 (toY m : Int), .int .i64 (toZ m : Int)] 40)))
    have R6 : Hid (RefAt _) := hR.out.next B6.out
    go_wp2_with fail
    refine (of_any _ _ _ _ R6).mono ?_
    rintro e w6 ⟨rfl, hb⟩
    rw [hc]
    have B7 := Lib.hid (below_next B6.out hb)
    clear hb
    go_wp2_with fail
    go_ret
    exact ⟨rfl, B7.out⟩
  · cases hn hc
    have B6 := Lib.hid (below_next B5.out (belowBox _ (.cells #[.int .i64 0, .int .i64 0, .int .i64 0] 40)))
    rcases h63 : m.testBit 63 with _ | _
    · have k3 := k1.out h63
      go_wp2_with fail
      go_ret
      exact ⟨rfl, B6.out⟩
    · have k3 := k2.out h63
      obtain ⟨i, hi, hb⟩ := (none_of m hm hc).resolve_left (by rw [h63]; simp)
      have k4 := hi15 hm hi hb
      go_wp2_with fail
      go_ret
      exact ⟨rfl, B6.out⟩

theorem refs_walk (x y z : Int) (m : Nat) (w : World) (b1 : -9223372036854775808 ≤ x) (b2 : x ≤ 9223372036854775807) (b3 : -9223372036854775808 ≤ y) (b4 : y ≤ 9223372036854775807) (b5 : -9223372036854775808 ≤ z) (b6 : z ≤ 9223372036854775807) (hm : m < 18446744073709551616) (hR : RefAt w) :
    Calls Tryd.prog 6 #[.agg #[.int .i64 x, .int .i64 y, .int .i64 z], .int .u64 m] w fun e w' => e = .returned (.bool true) ∧ Below w.heap.size w w' := by
  by_cases h : 0 ≤ x ∧ x < 256 ∧ 0 ≤ y ∧ y < 256 ∧ 0 ≤ z ∧ z < 4294967296
  · obtain ⟨i, rfl⟩ := Int.eq_ofNat_of_zero_le h.1
    obtain ⟨j, rfl⟩ := Int.eq_ofNat_of_zero_le h.2.2.1
    obtain ⟨k, rfl⟩ := Int.eq_ofNat_of_zero_le h.2.2.2.2.1
    exact refs_may i j k m w (by omega) (by omega) (by omega) hm hR
  · exact refs_no x y z m w (ofR_no b1 b2 b3 b4 b5 b6 h) (by omega) hm hR

end Go.Proofs.YtjddbbkmaifcpaaDoor
