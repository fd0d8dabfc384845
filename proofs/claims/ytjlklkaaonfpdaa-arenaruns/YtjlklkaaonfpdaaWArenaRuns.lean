/-
  The walk of the statement ArenaRuns: a run is long enough for what is asked for, and one superblock less isn't; and what has a class is never longer than half a superblock.
-/
import Derived.Test.YtjlklkaaonfpdaaArena6
import Derived.Test.YtjlklkaaonfpdaaMayNums
namespace Go.Proofs.Ytjlklkaaonfpdaa
open Go.RowKit

set_option maxHeartbeats 1000000 in
theorem runs5_no (W S B T : Int) (ad : Option Addr) (len cap : Nat) (f : Nat → Int) (a : Int) (w : World) (hr : Hid (RowI w ad len f)) (hl : len < 9223372036854775808)  (hm : Hid (mayB W S B T len f = false)) :
    Calls Try.prog 7 #[.agg #[.int .i64 W, .int .i64 S, .int .i64 B, .int .i64 T, .slice ad len cap], .int .i64 a] w fun e w' => e = .returned (.bool true) ∧ Below w.heap.size w w' := by
  have K0 : Hid (Ar w (w.alloc (.cells #[.int .i64 W, .int .i64 S, .int .i64 B, .int .i64 T, .slice ad len cap] 24)) w.heap.size W S B T ad len cap f) := Ar.start hr.out
  go_enter Try.func7, Try.ntmps7
  go_wp2_with fail
  generalize w.alloc (.cells #[.int .i64 W, .int .i64 S, .int .i64 B, .int .i64 T, .slice ad len cap] 24) = w0 at *
  generalize hN : w.heap.size = N at *
  refine (speaks5 _).mono ?_
  rintro e wa ⟨rfl, hb⟩
  have K1 := Lib.hid (K0.out.next hb)
  clear hb K0
  obtain ⟨c0, c1, c2, c3, c4⟩ := cfg_cells K1.out.c
  go_wp2_with fail
  refine (rmay_any W S B T ad len cap f _ K1.out.r hl).mono ?_
  rintro e wb ⟨he, hb⟩
  obtain rfl : e = .returned (.bool false) := by rw [he, hm.out]
  have K2 := Lib.hid (K1.out.next hb)
  clear hb K1 c0 c1 c2 c3 c4 he
  go_wp2_with fail
  go_ret
  exact ⟨rfl, by first | exact K2.out.b | (rw [hN]; exact K2.out.b)⟩

set_option maxHeartbeats 2000000 in
theorem runs5_yes (W S B T : Int) (ad : Option Addr) (len cap : Nat) (f : Nat → Int) (a : Int) (w : World) (hr : Hid (RowI w ad len f)) (hl : len < 9223372036854775808)  (hm : Hid (mayB W S B T len f = true)) :
    Calls Try.prog 7 #[.agg #[.int .i64 W, .int .i64 S, .int .i64 B, .int .i64 T, .slice ad len cap], .int .i64 a] w fun e w' => e = .returned (.bool true) ∧ Below w.heap.size w w' := by
  have K0 : Hid (Ar w (w.alloc (.cells #[.int .i64 W, .int .i64 S, .int .i64 B, .int .i64 T, .slice ad len cap] 24)) w.heap.size W S B T ad len cap f) := Ar.start hr.out
  go_enter Try.func7, Try.ntmps7
  go_wp2_with fail
  generalize w.alloc (.cells #[.int .i64 W, .int .i64 S, .int .i64 B, .int .i64 T, .slice ad len cap] 24) = w0 at *
  generalize hN : w.heap.size = N at *
  refine (speaks5 _).mono ?_
  rintro e wa ⟨rfl, hb⟩
  have K1 := Lib.hid (K0.out.next hb)
  clear hb K0
  obtain ⟨c0, c1, c2, c3, c4⟩ := cfg_cells K1.out.c
  go_wp2_with fail
  refine (rmay_any W S B T ad len cap f _ K1.out.r hl).mono ?_
  rintro e wb ⟨he, hb⟩
  obtain rfl : e = .returned (.bool true) := by rw [he, hm.out]
  have K2 := Lib.hid (K1.out.next hb)
  clear hb K1 c0 c1 c2 c3 c4 he
  obtain ⟨⟨w1, w2⟩, ⟨s1, s2⟩, ⟨b1, b2⟩, ⟨t1, t2⟩, ⟨l1, l2⟩, hcls⟩ := may_nums hm.out
  have OK := Lib.hid (cls_ok hcls)
  clear hcls w1 w2 b1 b2 t1 t2
  obtain ⟨c0, c1, c2, c3, c4⟩ := cfg_cells K2.out.c
  by_cases h0 : a < 1
  · have d0 : decide (a < 1) = true := by simpa using h0
    go_wp2_with fail
    refine (run_small W S B T ad len cap a _ h0).mono ?_
    rintro e wc ⟨rfl, hb⟩
    have K3 := Lib.hid (K2.out.next hb)
    clear hb K2 c0 c1 c2 c3 c4
    obtain ⟨c0, c1, c2, c3, c4⟩ := cfg_cells K3.out.c
    go_wp2_with fail
    refine (class_small W S B T _ a _ h0).mono ?_
    rintro e wd ⟨rfl, hb⟩
    have K4 := Lib.hid (K3.out.next hb)
    clear hb K3 c0 c1 c2 c3 c4
    obtain ⟨c0, c1, c2, c3, c4⟩ := cfg_cells K4.out.c
    go_wp2_with fail
    go_ret
    exact ⟨rfl, by first | exact K4.out.b | (rw [hN]; exact K4.out.b)⟩
  · have d0 : decide (a < 1) = false := by simpa using h0
    have h1 : 1 ≤ a := by omega
    rcases class_case f a len with hno | ⟨i, hi, h2, h3⟩
    · have HNO := Lib.hid hno
      clear hno
      go_wp2_with fail
      refine (run_no W S B T ad len cap f a _ K2.out.r hl h1 HNO (by omega) (by omega)).mono ?_
      rintro e wc ⟨rfl, hb⟩
      have K3 := Lib.hid (K2.out.next hb)
      clear hb K2 c0 c1 c2 c3 c4
      obtain ⟨c0, c1, c2, c3, c4⟩ := cfg_cells K3.out.c
      go_wp2_with fail
      refine (class_no W S B T ad len cap f a _ K3.out.r hl h1 HNO).mono ?_
      rintro e wd ⟨rfl, hb⟩
      have K4 := Lib.hid (K3.out.next hb)
      clear hb K3 c0 c1 c2 c3 c4
      obtain ⟨c0, c1, c2, c3, c4⟩ := cfg_cells K4.out.c
      have HQ : Hid (runI S a = if 1024 * S < a then 0 else (a - 1) / 1024 + 1) := rfl
      generalize runI S a = n at *
      by_cases h4 : 1024 * S < a
      · have d4 : decide (1024 * S < a) = true := by simpa using h4
        obtain rfl : n = 0 := by rw [HQ.out, if_pos h4]
        clear HQ
        go_wp2_with fail
        go_ret
        exact ⟨rfl, by first | exact K4.out.b | (rw [hN]; exact K4.out.b)⟩
      · have hn : n = (a - 1) / 1024 + 1 := by rw [HQ.out, if_neg h4]
        have n1 : 1 ≤ n := by omega
        have n2 : n ≤ S := by omega
        have n3 : a ≤ 1024 * n := by omega
        have n4 : 1024 * (n - 1) < a := by omega
        clear HQ hn
        have e1 : (n == 0) = false := by simp; omega
        have e2 : decide (a ≤ 1024 * n) = true := by simpa using n3
        have e3 : decide (1024 * (n - 1) < a) = true := by simpa using n4
        have e4 : decide (n ≤ S) = true := by simpa using n2
        have hlast := HNO.out (len - 1) (by omega)
        obtain ⟨b, off, rfl, hc⟩ := K4.out.r.at (show len - 1 < len by omega)
        have x1 : (len : Int) - 1 < (len : Int) := by omega
        have x2 : 0 ≤ (len : Int) - 1 := by omega
        have x4 : ((len : Int) - 1).toNat = len - 1 := by omega
        generalize f (len - 1) = z at *
        have e5 : decide (z < a) = true := by simpa using hlast
        go_wp2_with fail
        go_ret
        exact ⟨rfl, by first | exact K4.out.b | (rw [hN]; exact K4.out.b)⟩
    · have H3 := Lib.hid h3
      have H2 := Lib.hid h2
      clear h3 h2
      go_wp2_with fail
      refine (run_has W S B T ad len cap f a i _ K2.out.r hl h1 hi H2.out H3).mono ?_
      rintro e wc ⟨rfl, hb⟩
      have K3 := Lib.hid (K2.out.next hb)
      clear hb K2 c0 c1 c2 c3 c4
      obtain ⟨c0, c1, c2, c3, c4⟩ := cfg_cells K3.out.c
      go_wp2_with fail
      refine (class_yes W S B T ad len cap f a i _ K3.out.r hl h1 hi H2.out H3).mono ?_
      rintro e wd ⟨rfl, hb⟩
      have K4 := Lib.hid (K3.out.next hb)
      clear hb K3 c0 c1 c2 c3 c4
      obtain ⟨c0, c1, c2, c3, c4⟩ := cfg_cells K4.out.c
      have z1 := OK.out.hi i hi
      have z2 := H2.out
      have z3 : a ≤ 512 := by omega
      have e1 : decide (a ≤ 512) = true := by simpa using z3
      have x1 : (i : Int) < (len : Int) := by omega
      obtain ⟨b, off, hb, hc⟩ := K4.out.r.at hi
      by_cases hi0 : i = 0
      · subst hi0
        subst hb
        rw [Nat.add_zero] at hc
        rw [show ((0 : Nat) : Int) = 0 from rfl] at *
        have x0 : 0 < len := hi
        generalize f 0 = z at *
        have e2 : decide (a ≤ z) = true := by simpa using z2
        go_wp2_with fail
        go_ret
        exact ⟨rfl, by first | exact K4.out.b | (rw [hN]; exact K4.out.b)⟩
      · obtain ⟨j, rfl⟩ : ∃ j, i = j + 1 := ⟨i - 1, by omega⟩
        obtain ⟨b', off', hb', hc'⟩ := K4.out.r.at (show j < len by omega)
        subst hb
        obtain ⟨rfl, rfl⟩ : b = b' ∧ off = off' := by simp at hb'; exact hb'
        clear hb'
        have z4 := H3.out j (by omega)
        rw [show ((j + 1 : Nat) : Int) = (j : Int) + 1 from by omega] at *
        have e3 : ((j : Int) + 1 == 0) = false := by simp; omega
        have x2 : (0 : Int) ≤ (j : Int) + 1 := by omega
        have x3 : (j : Int) < (len : Int) := by omega
        have x4 : ((j : Int) + 1).toNat = j + 1 := by omega
        generalize f (j + 1) = z at *
        generalize f j = y at *
        have e2 : decide (a ≤ z) = true := by simpa using z2
        have e4 : decide (y < a) = true := by simpa using z4
        go_wp2_with fail
        go_ret
        exact ⟨rfl, by first | exact K4.out.b | (rw [hN]; exact K4.out.b)⟩

theorem runs5_walk (W S B T : Int) (ad : Option Addr) (len cap : Nat) (f : Nat → Int) (a : Int) (w : World) (hr : RowI w ad len f) (hl : len < 9223372036854775808)  :
    Calls Try.prog 7 #[.agg #[.int .i64 W, .int .i64 S, .int .i64 B, .int .i64 T, .slice ad len cap], .int .i64 a] w fun e w' => e = .returned (.bool true) ∧ Below w.heap.size w w' := by
  rcases h : mayB W S B T len f with _ | _
  · exact runs5_no W S B T ad len cap f a w hr hl  h
  · exact runs5_yes W S B T ad len cap f a w hr hl  h

end Go.Proofs.Ytjlklkaaonfpdaa
