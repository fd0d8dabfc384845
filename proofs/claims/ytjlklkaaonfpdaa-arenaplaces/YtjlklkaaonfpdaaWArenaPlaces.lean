/-
  The walk of the statement ArenaPlaces: each address that is a grain's is that of its superblock and grain; no other one is.
-/
import Derived.Test.YtjlklkaaonfpdaaArena6
import Derived.Test.YtjlklkaaonfpdaaMayNums
namespace Go.Proofs.Ytjlklkaaonfpdaa
open Go.RowKit

set_option maxHeartbeats 1000000 in
theorem places_no (W S B T : Int) (ad : Option Addr) (len cap : Nat) (f : Nat → Int) (a : Int) (w : World) (hr : Hid (RowI w ad len f)) (hl : len < 9223372036854775808)  (hm : Hid (mayB W S B T len f = false)) :
    Calls Try.prog 6 #[.agg #[.int .i64 W, .int .i64 S, .int .i64 B, .int .i64 T, .slice ad len cap], .int .i64 a] w fun e w' => e = .returned (.bool true) ∧ Below w.heap.size w w' := by
  have K0 : Hid (Ar w (w.alloc (.cells #[.int .i64 W, .int .i64 S, .int .i64 B, .int .i64 T, .slice ad len cap] 24)) w.heap.size W S B T ad len cap f) := Ar.start hr.out
  go_enter Try.func6, Try.ntmps6
  go_wp2_with fail
  generalize w.alloc (.cells #[.int .i64 W, .int .i64 S, .int .i64 B, .int .i64 T, .slice ad len cap] 24) = w0 at *
  generalize hN : w.heap.size = N at *
  refine (speaks5 _).mono ?_
  rintro e wa ⟨rfl, hb⟩
  have K1 := Lib.hid (K0.out.next hb)
  clear hb K0
  obtain ⟨c0, c1, c2, c3, c4⟩ := cfg_cells K1.out.c
  go_wp2_with fail
  refine (rmay_any W S B T ad len cap f _ K1.out.r hl).mono ?_
  rintro e wb ⟨he, hb⟩
  obtain rfl : e = .returned (.bool false) := by rw [he, hm.out]
  have K2 := Lib.hid (K1.out.next hb)
  clear hb K1 c0 c1 c2 c3 c4 he
  go_wp2_with fail
  go_ret
  exact ⟨rfl, by first | exact K2.out.b | (rw [hN]; exact K2.out.b)⟩

set_option maxHeartbeats 2000000 in
theorem places_yes (W S B T : Int) (ad : Option Addr) (len cap : Nat) (f : Nat → Int) (a : Int) (w : World) (hr : Hid (RowI w ad len f)) (hl : len < 9223372036854775808)  (hm : Hid (mayB W S B T len f = true)) :
    Calls Try.prog 6 #[.agg #[.int .i64 W, .int .i64 S, .int .i64 B, .int .i64 T, .slice ad len cap], .int .i64 a] w fun e w' => e = .returned (.bool true) ∧ Below w.heap.size w w' := by
  have K0 : Hid (Ar w (w.alloc (.cells #[.int .i64 W, .int .i64 S, .int .i64 B, .int .i64 T, .slice ad len cap] 24)) w.heap.size W S B T ad len cap f) := Ar.start hr.out
  go_enter Try.func6, Try.ntmps6
  go_wp2_with fail
  generalize w.alloc (.cells #[.int .i64 W, .int .i64 S, .int .i64 B, .int .i64 T, .slice ad len cap] 24) = w0 at *
  generalize hN : w.heap.size = N at *
  refine (speaks5 _).mono ?_
  rintro e wa ⟨rfl, hb⟩
  have K1 := Lib.hid (K0.out.next hb)
  clear hb K0
  obtain ⟨c0, c1, c2, c3, c4⟩ := cfg_cells K1.out.c
  go_wp2_with fail
  refine (rmay_any W S B T ad len cap f _ K1.out.r hl).mono ?_
  rintro e wb ⟨he, hb⟩
  obtain rfl : e = .returned (.bool true) := by rw [he, hm.out]
  have K2 := Lib.hid (K1.out.next hb)
  clear hb K1 c0 c1 c2 c3 c4 he
  obtain ⟨⟨w1, w2⟩, ⟨s1, s2⟩, ⟨b1, b2⟩, ⟨t1, t2⟩, ⟨l1, l2⟩, hcls⟩ := may_nums hm.out
  have OK := Lib.hid (cls_ok hcls)
  clear hcls w1 w2 b1 b2 t1 t2
  obtain ⟨c0, c1, c2, c3, c4⟩ := cfg_cells K2.out.c
  by_cases hp : a < 65536 ∨ 65536 + 1024 * S ≤ a ∨ a % 16 ≠ 0
  · have HP := Lib.hid hp
    clear hp
    go_wp2_with fail
    refine (place_no _ _ _ _ _ _ _ (by omega) (by omega) HP.out).mono ?_
    rintro e wc ⟨rfl, hb⟩
    have K3 := Lib.hid (K2.out.next hb)
    clear hb K2 c0 c1 c2 c3 c4
    obtain ⟨c0, c1, c2, c3, c4⟩ := cfg_cells K3.out.c
    by_cases h0 : a < 65536
    · have d0 : decide (a < 65536) = true := by simpa using h0
      go_wp2_with fail
      go_ret
      exact ⟨rfl, by first | exact K3.out.b | (rw [hN]; exact K3.out.b)⟩
    · have d0 : decide (a < 65536) = false := by simpa using h0
      by_cases h1 : 65536 + 1024 * S ≤ a
      · have d1 : decide (65536 + 1024 * S ≤ a) = true := by simpa using h1
        go_wp2_with fail
        go_ret
        exact ⟨rfl, by first | exact K3.out.b | (rw [hN]; exact K3.out.b)⟩
      · have d1 : decide (65536 + 1024 * S ≤ a) = false := by simpa using h1
        have d2 : (a % 16 != 0) = true := by have := HP.out; simp; omega
        have a0 : 65536 ≤ a := by omega
        have a1 : a ≤ 2000000 := by omega
        clear HP
        go_wp2_with fail
        go_ret
        exact ⟨rfl, by first | exact K3.out.b | (rw [hN]; exact K3.out.b)⟩
  · have p0 : 65536 ≤ a := by omega
    have p1 : a < 65536 + 1024 * S := by omega
    have P2 : Hid (a % 16 = 0) := by show a % 16 = 0; omega
    clear hp
    go_wp2_with fail
    refine (place_yes _ _ _ _ _ _ _ (by omega) (by omega) p0 p1 P2.out).mono ?_
    rintro e wc ⟨rfl, hb⟩
    have K3 := Lib.hid (K2.out.next hb)
    clear hb K2 c0 c1 c2 c3 c4
    obtain ⟨c0, c1, c2, c3, c4⟩ := cfg_cells K3.out.c
    have d0 : decide (a < 65536) = false := by simp; omega
    have d1 : decide (65536 + 1024 * S ≤ a) = false := by simp; omega
    have d2 : (a % 16 != 0) = false := by have := P2.out; simpa using this
    have q0 : 0 ≤ (a - 65536) / 16 / 64 := by omega
    have q1 : (a - 65536) / 16 / 64 < S := by omega
    have q2 : 0 ≤ (a - 65536) / 16 % 64 := by omega
    have q3 : (a - 65536) / 16 % 64 < 64 := by omega
    have Q4 : Hid (65536 + 1024 * ((a - 65536) / 16 / 64) + 16 * ((a - 65536) / 16 % 64) = a) := by show _ = _; have := P2.out; omega
    generalize (a - 65536) / 16 / 64 = s at *
    generalize (a - 65536) / 16 % 64 = g at *
    have d3 : decide (0 ≤ s) = true := by simpa using q0
    have d4 : decide (s < S) = true := by simpa using q1
    have d5 : decide (0 ≤ g) = true := by simpa using q2
    have d6 : decide (g < 64) = true := by simpa using q3
    have d7 : (65536 + 1024 * s + 16 * g == a) = true := by have := Q4.out; simpa using this
    clear P2 Q4
    go_wp2_with fail
    go_ret
    exact ⟨rfl, by first | exact K3.out.b | (rw [hN]; exact K3.out.b)⟩

theorem places_walk (W S B T : Int) (ad : Option Addr) (len cap : Nat) (f : Nat → Int) (a : Int) (w : World) (hr : RowI w ad len f) (hl : len < 9223372036854775808)  :
    Calls Try.prog 6 #[.agg #[.int .i64 W, .int .i64 S, .int .i64 B, .int .i64 T, .slice ad len cap], .int .i64 a] w fun e w' => e = .returned (.bool true) ∧ Below w.heap.size w w' := by
  rcases h : mayB W S B T len f with _ | _
  · exact places_no W S B T ad len cap f a w hr hl  h
  · exact places_yes W S B T ad len cap f a w hr hl  h

end Go.Proofs.Ytjlklkaaonfpdaa
