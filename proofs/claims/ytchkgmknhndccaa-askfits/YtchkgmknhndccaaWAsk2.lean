/-
  The walks of AskFits and AskRises.
-/
import Derived.Test.YtchkgmknhndccaaWAsk1
namespace Go.Proofs.Ytchkgmknhndccaa
open Go.RowKit Go.Sort

set_option maxRecDepth 20000 in
set_option maxHeartbeats 4000000 in
theorem fits14_no (W S B T : Int) (ad : Option Addr) (len cap : Nat) (f : Nat → Int) (a : Int) (w : World) (hr : Hid (RowI w ad len f)) (hl : len < 9223372036854775808) (hm : Hid (mayB W S B T len f = false)) :
    Calls Try.prog 4 #[.agg #[.int .i64 W, .int .i64 S, .int .i64 B, .int .i64 T, .slice ad len cap], .int .i64 a] w fun e w' => e = .returned (.bool true) ∧ Below w.heap.size w w' := by
  have K0 : Hid (Ar w (w.alloc (.cells #[.int .i64 W, .int .i64 S, .int .i64 B, .int .i64 T, .slice ad len cap] 24)) w.heap.size W S B T ad len cap f) := Ar.start hr.out
  go_enter Try.func4, Try.ntmps4
  go_wp2_with fail
  generalize w.alloc (.cells #[.int .i64 W, .int .i64 S, .int .i64 B, .int .i64 T, .slice ad len cap] 24) = w0 at *
  generalize hN : w.heap.size = N at *
  refine (speaks14 _).mono ?_
  rintro e w1 ⟨rfl, hb⟩
  have K1 := Lib.hid (K0.out.next hb)
  clear hb K0 
  obtain ⟨c0, c1, c2, c3, c4⟩ := cfg_cells K1.out.c
  go_wp2_with fail
  refine (rmay_any W S B T ad len cap f _ K1.out.r hl).mono ?_
  rintro e w2 ⟨he, hb⟩
  obtain rfl : e = .returned (.bool false) := by rw [he, hm.out]
  clear he
  have K2 := Lib.hid (K1.out.next hb)
  clear hb K1 
  clear c0 c1 c2 c3 c4
  obtain ⟨c0, c1, c2, c3, c4⟩ := cfg_cells K2.out.c
  go_wp2_with fail
  go_ret
  exact ⟨rfl, by first | exact K2.out.b | (rw [hN]; exact K2.out.b)⟩
set_option maxRecDepth 20000 in
set_option maxHeartbeats 4000000 in
theorem fits14_small (W S B T : Int) (ad : Option Addr) (len cap : Nat) (f : Nat → Int) (a : Int) (w : World) (hr : Hid (RowI w ad len f)) (hl : len < 9223372036854775808) (h : a < 1) (hm : Hid (mayB W S B T len f = true)) :
    Calls Try.prog 4 #[.agg #[.int .i64 W, .int .i64 S, .int .i64 B, .int .i64 T, .slice ad len cap], .int .i64 a] w fun e w' => e = .returned (.bool true) ∧ Below w.heap.size w w' := by
  have K0 : Hid (Ar w (w.alloc (.cells #[.int .i64 W, .int .i64 S, .int .i64 B, .int .i64 T, .slice ad len cap] 24)) w.heap.size W S B T ad len cap f) := Ar.start hr.out
  go_enter Try.func4, Try.ntmps4
  go_wp2_with fail
  generalize w.alloc (.cells #[.int .i64 W, .int .i64 S, .int .i64 B, .int .i64 T, .slice ad len cap] 24) = w0 at *
  generalize hN : w.heap.size = N at *
  refine (speaks14 _).mono ?_
  rintro e w1 ⟨rfl, hb⟩
  have K1 := Lib.hid (K0.out.next hb)
  clear hb K0 
  obtain ⟨c0, c1, c2, c3, c4⟩ := cfg_cells K1.out.c
  go_wp2_with fail
  refine (rmay_any W S B T ad len cap f _ K1.out.r hl).mono ?_
  rintro e w2 ⟨he, hb⟩
  obtain rfl : e = .returned (.bool true) := by rw [he, hm.out]
  clear he
  have K2 := Lib.hid (K1.out.next hb)
  clear hb K1 
  clear c0 c1 c2 c3 c4
  obtain ⟨c0, c1, c2, c3, c4⟩ := cfg_cells K2.out.c
  obtain ⟨⟨w1, w2⟩, ⟨s1, s2⟩, ⟨b1, b2⟩, ⟨t1, t2⟩, ⟨l1, l2⟩, hcls⟩ := may_nums hm.out
  clear hcls w1 w2 b1 b2 t1 t2
  go_wp2_with fail
  refine (check_alloc W S B T ad len cap f a 0 0 3 _ (Lib.hid K2.out.r) hl (by omega) (by omega) (.small h)).mono ?_
  rintro e w3 ⟨rfl, hb⟩
  have K3 := Lib.hid (K2.out.next hb)
  clear hb K2 
  clear c0 c1 c2 c3 c4
  obtain ⟨c0, c1, c2, c3, c4⟩ := cfg_cells K3.out.c
  have d1 : decide (a < 1) = true := by simpa using h
  have hba := below_alloc w3 (.cells #[.int .i64 0, .int .i64 0] 30)
  have X4 := Lib.hid (Two5.new w3 30 0 0)
  have K4 := Lib.hid (K3.out.next hba)
  have lN3 := K3.out.lt
  have lM3 : ¬ N = w3.heap.size := by omega
  clear hba
  go_wp2_with fail
  generalize w3.alloc (.cells #[.int .i64 0, .int .i64 0] 30) = w4 at *
  generalize hM3 : w3.heap.size = MX at *
  clear K3 lN3 lM3 hM3 
  clear c0 c1 c2 c3 c4
  obtain ⟨c0, c1, c2, c3, c4⟩ := cfg_cells K4.out.c
  obtain ⟨Xa, Xb⟩ := X4.out.cells
  go_ret
  exact ⟨rfl, by first | exact K4.out.b | (rw [hN]; exact K4.out.b)⟩
set_option maxRecDepth 20000 in
set_option maxHeartbeats 4000000 in
theorem fits14_big (W S B T : Int) (ad : Option Addr) (len cap : Nat) (f : Nat → Int) (a : Int) (w : World) (hr : Hid (RowI w ad len f)) (hl : len < 9223372036854775808) (h : 1 ≤ a) (h3 : Hid (∀ j, j < len → f j < a)) (h4 : 1024 * S < a) (hm : Hid (mayB W S B T len f = true)) :
    Calls Try.prog 4 #[.agg #[.int .i64 W, .int .i64 S, .int .i64 B, .int .i64 T, .slice ad len cap], .int .i64 a] w fun e w' => e = .returned (.bool true) ∧ Below w.heap.size w w' := by
  have K0 : Hid (Ar w (w.alloc (.cells #[.int .i64 W, .int .i64 S, .int .i64 B, .int .i64 T, .slice ad len cap] 24)) w.heap.size W S B T ad len cap f) := Ar.start hr.out
  go_enter Try.func4, Try.ntmps4
  go_wp2_with fail
  generalize w.alloc (.cells #[.int .i64 W, .int .i64 S, .int .i64 B, .int .i64 T, .slice ad len cap] 24) = w0 at *
  generalize hN : w.heap.size = N at *
  refine (speaks14 _).mono ?_
  rintro e w1 ⟨rfl, hb⟩
  have K1 := Lib.hid (K0.out.next hb)
  clear hb K0 
  obtain ⟨c0, c1, c2, c3, c4⟩ := cfg_cells K1.out.c
  go_wp2_with fail
  refine (rmay_any W S B T ad len cap f _ K1.out.r hl).mono ?_
  rintro e w2 ⟨he, hb⟩
  obtain rfl : e = .returned (.bool true) := by rw [he, hm.out]
  clear he
  have K2 := Lib.hid (K1.out.next hb)
  clear hb K1 
  clear c0 c1 c2 c3 c4
  obtain ⟨c0, c1, c2, c3, c4⟩ := cfg_cells K2.out.c
  obtain ⟨⟨w1, w2⟩, ⟨s1, s2⟩, ⟨b1, b2⟩, ⟨t1, t2⟩, ⟨l1, l2⟩, hcls⟩ := may_nums hm.out
  clear hcls w1 w2 b1 b2 t1 t2
  go_wp2_with fail
  refine (check_alloc W S B T ad len cap f a 0 0 3 _ (Lib.hid K2.out.r) hl (by omega) (by omega) (.big h h3 h4)).mono ?_
  rintro e w3 ⟨rfl, hb⟩
  have K3 := Lib.hid (K2.out.next hb)
  clear hb K2 
  clear c0 c1 c2 c3 c4
  obtain ⟨c0, c1, c2, c3, c4⟩ := cfg_cells K3.out.c
  have hs : IntKind.i64.wrap (1024 * S) = 1024 * S := by rw [IntKind.wrap_i64]; omega
  have d1 : decide (a < 1) = false := by simp; omega
  have d2 : decide (1024 * S < a) = true := by simpa using h4
  have hba := below_alloc w3 (.cells #[.int .i64 0, .int .i64 0] 30)
  have X4 := Lib.hid (Two5.new w3 30 0 0)
  have K4 := Lib.hid (K3.out.next hba)
  have lN3 := K3.out.lt
  have lM3 : ¬ N = w3.heap.size := by omega
  clear hba
  go_wp2_with fail
  generalize w3.alloc (.cells #[.int .i64 0, .int .i64 0] 30) = w4 at *
  generalize hM3 : w3.heap.size = MX at *
  clear K3 lN3 lM3 hM3 
  clear c0 c1 c2 c3 c4
  obtain ⟨c0, c1, c2, c3, c4⟩ := cfg_cells K4.out.c
  obtain ⟨Xa, Xb⟩ := X4.out.cells
  go_ret
  exact ⟨rfl, by first | exact K4.out.b | (rw [hN]; exact K4.out.b)⟩
set_option maxRecDepth 20000 in
set_option maxHeartbeats 4000000 in
theorem fits14_cls (W S B T : Int) (ad : Option Addr) (len cap : Nat) (f : Nat → Int) (a : Int) (i : Nat) (w : World) (hr : Hid (RowI w ad len f)) (hl : len < 9223372036854775808) (h : 1 ≤ a) (hi : i < len) (h2 : a ≤ f i) (h3 : Hid (∀ j, j < i → f j < a)) (hm : Hid (mayB W S B T len f = true)) :
    Calls Try.prog 4 #[.agg #[.int .i64 W, .int .i64 S, .int .i64 B, .int .i64 T, .slice ad len cap], .int .i64 a] w fun e w' => e = .returned (.bool true) ∧ Below w.heap.size w w' := by
  have K0 : Hid (Ar w (w.alloc (.cells #[.int .i64 W, .int .i64 S, .int .i64 B, .int .i64 T, .slice ad len cap] 24)) w.heap.size W S B T ad len cap f) := Ar.start hr.out
  go_enter Try.func4, Try.ntmps4
  go_wp2_with fail
  generalize w.alloc (.cells #[.int .i64 W, .int .i64 S, .int .i64 B, .int .i64 T, .slice ad len cap] 24) = w0 at *
  generalize hN : w.heap.size = N at *
  refine (speaks14 _).mono ?_
  rintro e w1 ⟨rfl, hb⟩
  have K1 := Lib.hid (K0.out.next hb)
  clear hb K0 
  obtain ⟨c0, c1, c2, c3, c4⟩ := cfg_cells K1.out.c
  go_wp2_with fail
  refine (rmay_any W S B T ad len cap f _ K1.out.r hl).mono ?_
  rintro e w2 ⟨he, hb⟩
  obtain rfl : e = .returned (.bool true) := by rw [he, hm.out]
  clear he
  have K2 := Lib.hid (K1.out.next hb)
  clear hb K1 
  clear c0 c1 c2 c3 c4
  obtain ⟨c0, c1, c2, c3, c4⟩ := cfg_cells K2.out.c
  obtain ⟨⟨w1, w2⟩, ⟨s1, s2⟩, ⟨b1, b2⟩, ⟨t1, t2⟩, ⟨l1, l2⟩, hcls⟩ := may_nums hm.out
  have OK := Lib.hid (cls_ok hcls)
  clear hcls w1 w2 b1 b2 t1 t2
  go_wp2_with fail
  refine (check_alloc W S B T ad len cap f a (i : Int) 0 0 _ (Lib.hid K2.out.r) hl (by omega) (by omega) (.cls i h hi h2 h3)).mono ?_
  rintro e w3 ⟨rfl, hb⟩
  have K3 := Lib.hid (K2.out.next hb)
  clear hb K2 
  clear c0 c1 c2 c3 c4
  obtain ⟨c0, c1, c2, c3, c4⟩ := cfg_cells K3.out.c
  have hba := below_alloc w3 (.cells #[.int .i64 (i : Int), .int .i64 0] 30)
  have X4 := Lib.hid (Two5.new w3 30 (i : Int) 0)
  have K4 := Lib.hid (K3.out.next hba)
  have lN3 := K3.out.lt
  have lM3 : ¬ N = w3.heap.size := by omega
  clear hba
  go_wp2_with fail
  generalize w3.alloc (.cells #[.int .i64 (i : Int), .int .i64 0] 30) = w4 at *
  generalize hM3 : w3.heap.size = MX at *
  clear K3 lN3 lM3 hM3 
  clear c0 c1 c2 c3 c4
  obtain ⟨c0, c1, c2, c3, c4⟩ := cfg_cells K4.out.c
  obtain ⟨Xa, Xb⟩ := X4.out.cells
  have TS : Hid (∀ w, RowI w ad len f → Calls Try.prog 13 #[.agg #[.int .i64 (i : Int), .int .i64 0], .agg #[.int .i64 W, .int .i64 S, .int .i64 B, .int .i64 T, .slice ad len cap]] w fun e w' => e = .returned (.int .i64 (f i)) ∧ Below w.heap.size w w') := fun w hr => by
    have := tsize_any W S B T ad len cap f (i : Int) 0 w (Lib.hid hr) (by omega)
    rw [szT_of hi] at this
    exact this
  have HJ : Hid (∀ j, j < len → a ≤ f j → f i ≤ f j) := fun j hj hf => by
    by_cases hji : j < i
    · have := h3.out j hji; omega
    · by_cases e : i = j
      · subst e; exact Int.le_refl _
      · have := OK.out.up i j (by omega) hj; omega
  have d1 : decide (f i < a) = false := by simp; omega
  have d2 : decide (a < 1) = false := by simp; omega
  generalize f i = z at *
  clear h2
  refine (TS.out _ K4.out.r).mono ?_
  rintro e w5 ⟨rfl, hb⟩
  have K5 := Lib.hid (K4.out.next hb)
  have X5 := Lib.hid (X4.out.next hb)
  clear hb K4 X4
  clear c0 c1 c2 c3 c4 Xa Xb
  obtain ⟨c0, c1, c2, c3, c4⟩ := cfg_cells K5.out.c
  obtain ⟨Xa, Xb⟩ := X5.out.cells
  go_wp2_with fail
  go_loop [46] (fun u => ∃ j : Nat, j ≤ len ∧ u = .int .i64 j) (fun u => len - (intOf u).toNat)
  case atStart => exact ⟨0, Nat.zero_le _, rfl⟩
  case round =>
    obtain ⟨j, hj, rfl⟩ := hrel
    by_cases hlt : j < len
    · have l2 : (j : Int) < (len : Int) := by omega
      obtain ⟨b, off, rfl, hc⟩ := K5.out.r.at hlt
      have hJ := HJ.out j hlt
      generalize f j = zj at *
      by_cases e1 : a ≤ zj
      · have d7 : decide (a ≤ zj) = true := by simpa using e1
        have d8 : decide (zj < z) = false := by have := hJ e1; simp; omega
        go_wp2_with fail
        go_round
        case rel => exact ⟨j + 1, by omega, by go_num⟩
        case measure => simp [intOf]; omega
      · have d7 : decide (a ≤ zj) = false := by simpa using e1
        go_wp2_with fail
        go_round
        case rel => exact ⟨j + 1, by omega, by go_num⟩
        case measure => simp [intOf]; omega
    · obtain rfl : j = len := by omega
      go_wp2_with fail
      go_ret
      exact ⟨rfl, by first | exact K5.out.b | (rw [hN]; exact K5.out.b)⟩
set_option maxRecDepth 20000 in
set_option maxHeartbeats 4000000 in
theorem fits14_run (W S B T : Int) (ad : Option Addr) (len cap : Nat) (f : Nat → Int) (a : Int) (q : Int) (w : World) (hr : Hid (RowI w ad len f)) (hl : len < 9223372036854775808) (h : 1 ≤ a) (h3 : Hid (∀ j, j < len → f j < a)) (h4 : a ≤ 1024 * S) (hq : Hid (q = (a - 1) / 1024 + 1)) (q1 : 1 ≤ q) (q2 : q ≤ S) (hm : Hid (mayB W S B T len f = true)) :
    Calls Try.prog 4 #[.agg #[.int .i64 W, .int .i64 S, .int .i64 B, .int .i64 T, .slice ad len cap], .int .i64 a] w fun e w' => e = .returned (.bool true) ∧ Below w.heap.size w w' := by
  have K0 : Hid (Ar w (w.alloc (.cells #[.int .i64 W, .int .i64 S, .int .i64 B, .int .i64 T, .slice ad len cap] 24)) w.heap.size W S B T ad len cap f) := Ar.start hr.out
  go_enter Try.func4, Try.ntmps4
  go_wp2_with fail
  generalize w.alloc (.cells #[.int .i64 W, .int .i64 S, .int .i64 B, .int .i64 T, .slice ad len cap] 24) = w0 at *
  generalize hN : w.heap.size = N at *
  refine (speaks14 _).mono ?_
  rintro e w1 ⟨rfl, hb⟩
  have K1 := Lib.hid (K0.out.next hb)
  clear hb K0 
  obtain ⟨c0, c1, c2, c3, c4⟩ := cfg_cells K1.out.c
  go_wp2_with fail
  refine (rmay_any W S B T ad len cap f _ K1.out.r hl).mono ?_
  rintro e w2 ⟨he, hb⟩
  obtain rfl : e = .returned (.bool true) := by rw [he, hm.out]
  clear he
  have K2 := Lib.hid (K1.out.next hb)
  clear hb K1 
  clear c0 c1 c2 c3 c4
  obtain ⟨c0, c1, c2, c3, c4⟩ := cfg_cells K2.out.c
  obtain ⟨⟨w1, w2⟩, ⟨s1, s2⟩, ⟨b1, b2⟩, ⟨t1, t2⟩, ⟨l1, l2⟩, hcls⟩ := may_nums hm.out
  clear hcls w1 w2 b1 b2 t1 t2
  go_wp2_with fail
  refine (check_alloc W S B T ad len cap f a (-1) q 0 _ (Lib.hid K2.out.r) hl (by omega) (by omega) (.run q h h3 h4 hq q1 q2)).mono ?_
  rintro e w3 ⟨rfl, hb⟩
  have K3 := Lib.hid (K2.out.next hb)
  clear hb K2 
  clear c0 c1 c2 c3 c4
  obtain ⟨c0, c1, c2, c3, c4⟩ := cfg_cells K3.out.c
  have hba := below_alloc w3 (.cells #[.int .i64 (-1), .int .i64 q] 30)
  have X4 := Lib.hid (Two5.new w3 30 (-1) q)
  have K4 := Lib.hid (K3.out.next hba)
  have lN3 := K3.out.lt
  have lM3 : ¬ N = w3.heap.size := by omega
  clear hba
  go_wp2_with fail
  generalize w3.alloc (.cells #[.int .i64 (-1), .int .i64 q] 30) = w4 at *
  generalize hM3 : w3.heap.size = MX at *
  clear K3 lN3 lM3 hM3 
  clear c0 c1 c2 c3 c4
  obtain ⟨c0, c1, c2, c3, c4⟩ := cfg_cells K4.out.c
  obtain ⟨Xa, Xb⟩ := X4.out.cells
  have TS : Hid (∀ w, RowI w ad len f → Calls Try.prog 13 #[.agg #[.int .i64 (-1), .int .i64 q], .agg #[.int .i64 W, .int .i64 S, .int .i64 B, .int .i64 T, .slice ad len cap]] w fun e w' => e = .returned (.int .i64 (q * 1024)) ∧ Below w.heap.size w w') := fun w hr => by
    have := tsize_any W S B T ad len cap f (-1) q w (Lib.hid hr) (by omega)
    rw [szT_run q1 q2] at this
    exact this
  have HJ : Hid (∀ j, j < len → a ≤ f j → q * 1024 ≤ f j) := fun j hj hf => by
    have := h3.out j hj; omega
  have d1 : decide (q * 1024 < a) = false := by have := hq.out; simp; omega
  have d2 : decide (a < 1) = false := by simp; omega
  have d4 : IntKind.i64.wrap (q * 1024 - a) = q * 1024 - a := by rw [IntKind.wrap_i64]; omega
  have d5 : decide (q * 1024 - a < 1024) = true := by have := hq.out; simp; omega
  have d6 : (q == 0) = false := by simp; omega
  generalize q * 1024 = z at *
  refine (TS.out _ K4.out.r).mono ?_
  rintro e w5 ⟨rfl, hb⟩
  have K5 := Lib.hid (K4.out.next hb)
  have X5 := Lib.hid (X4.out.next hb)
  clear hb K4 X4
  clear c0 c1 c2 c3 c4 Xa Xb
  obtain ⟨c0, c1, c2, c3, c4⟩ := cfg_cells K5.out.c
  obtain ⟨Xa, Xb⟩ := X5.out.cells
  go_wp2_with fail
  go_loop [46] (fun u => ∃ j : Nat, j ≤ len ∧ u = .int .i64 j) (fun u => len - (intOf u).toNat)
  case atStart => exact ⟨0, Nat.zero_le _, rfl⟩
  case round =>
    obtain ⟨j, hj, rfl⟩ := hrel
    by_cases hlt : j < len
    · have l2 : (j : Int) < (len : Int) := by omega
      obtain ⟨b, off, rfl, hc⟩ := K5.out.r.at hlt
      have hJ := HJ.out j hlt
      generalize f j = zj at *
      by_cases e1 : a ≤ zj
      · have d7 : decide (a ≤ zj) = true := by simpa using e1
        have d8 : decide (zj < z) = false := by have := hJ e1; simp; omega
        go_wp2_with fail
        go_round
        case rel => exact ⟨j + 1, by omega, by go_num⟩
        case measure => simp [intOf]; omega
      · have d7 : decide (a ≤ zj) = false := by simpa using e1
        go_wp2_with fail
        go_round
        case rel => exact ⟨j + 1, by omega, by go_num⟩
        case measure => simp [intOf]; omega
    · obtain rfl : j = len := by omega
      go_wp2_with fail
      go_ret
      exact ⟨rfl, by first | exact K5.out.b | (rw [hN]; exact K5.out.b)⟩
theorem fits14_walk (W S B T : Int) (ad : Option Addr) (len cap : Nat) (f : Nat → Int) (a : Int) (w : World) (hr : RowI w ad len f) (hl : len < 9223372036854775808) :
    Calls Try.prog 4 #[.agg #[.int .i64 W, .int .i64 S, .int .i64 B, .int .i64 T, .slice ad len cap], .int .i64 a] w fun e w' => e = .returned (.bool true) ∧ Below w.heap.size w w' := by
  have hr' := Lib.hid hr
  rcases h : mayB W S B T len f with _ | _
  · exact fits14_no W S B T ad len cap f a w hr' hl (Lib.hid h)
  · have hm := Lib.hid h
    obtain ⟨x, y, e, th⟩ := th_ex S len f a
    cases th with
    | small h => exact fits14_small W S B T ad len cap f a w hr' hl h hm
    | cls i h hi h2 h3 => exact fits14_cls W S B T ad len cap f a i w hr' hl h hi h2 h3 hm
    | run _ h h3 h4 hq q1 q2 => exact fits14_run W S B T ad len cap f a y w hr' hl h h3 h4 hq q1 q2 hm
    | big h h3 h4 => exact fits14_big W S B T ad len cap f a w hr' hl h h3 h4 hm
set_option maxRecDepth 20000 in
set_option maxHeartbeats 4000000 in
theorem rises14_no (W S B T : Int) (ad : Option Addr) (len cap : Nat) (f : Nat → Int) (a c : Int) (w : World) (hr : Hid (RowI w ad len f)) (hl : len < 9223372036854775808) (hm : Hid (mayB W S B T len f = false)) :
    Calls Try.prog 5 #[.agg #[.int .i64 W, .int .i64 S, .int .i64 B, .int .i64 T, .slice ad len cap], .int .i64 a, .int .i64 c] w fun e w' => e = .returned (.bool true) ∧ Below w.heap.size w w' := by
  have K0 : Hid (Ar w (w.alloc (.cells #[.int .i64 W, .int .i64 S, .int .i64 B, .int .i64 T, .slice ad len cap] 24)) w.heap.size W S B T ad len cap f) := Ar.start hr.out
  go_enter Try.func5, Try.ntmps5
  go_wp2_with fail
  generalize w.alloc (.cells #[.int .i64 W, .int .i64 S, .int .i64 B, .int .i64 T, .slice ad len cap] 24) = w0 at *
  generalize hN : w.heap.size = N at *
  refine (speaks14 _).mono ?_
  rintro e w1 ⟨rfl, hb⟩
  have K1 := Lib.hid (K0.out.next hb)
  clear hb K0 
  obtain ⟨c0, c1, c2, c3, c4⟩ := cfg_cells K1.out.c
  go_wp2_with fail
  refine (rmay_any W S B T ad len cap f _ K1.out.r hl).mono ?_
  rintro e w2 ⟨he, hb⟩
  obtain rfl : e = .returned (.bool false) := by rw [he, hm.out]
  clear he
  have K2 := Lib.hid (K1.out.next hb)
  clear hb K1 
  clear c0 c1 c2 c3 c4
  obtain ⟨c0, c1, c2, c3, c4⟩ := cfg_cells K2.out.c
  go_wp2_with fail
  go_ret
  exact ⟨rfl, by first | exact K2.out.b | (rw [hN]; exact K2.out.b)⟩
/-- How many bytes who asks for so many is to have. -/
theorem th_rise {S : Int} {len : Nat} {f : Nat → Int} {a c x y x2 y2 : Int} (ok : ClsOk len f) (h1 : ThIs S len f a x y 0) (h2 : ThIs S len f c x2 y2 0) (hac : a ≤ c) : szT S len f x y ≤ szT S len f x2 y2 := by
  cases h1 with
  | cls i h hi q2 q3 =>
    cases h2 with
    | cls j g hj r2 r3 =>
      rw [szT_of hi, szT_of hj]
      by_cases e : j < i
      · have := q3.out j e; omega
      · by_cases e2 : i = j
        · subst e2; exact Int.le_refl _
        · have := ok.up i j (by omega) hj; omega
    | run _ g r3 r4 rq r1 r2 => rw [szT_of hi, szT_run r1 r2]; have := ok.hi i hi; omega
  | run _ h q3 q4 qq q1 q2 =>
    cases h2 with
    | cls j g hj r2 r3 => have := q3.out j hj; omega
    | run _ g r3 r4 rq r1 r2 =>
      rw [szT_run q1 q2, szT_run r1 r2]
      have := qq.out
      have := rq.out
      omega
set_option maxRecDepth 20000 in
set_option maxHeartbeats 4000000 in
theorem rises14_bad (W S B T : Int) (ad : Option Addr) (len cap : Nat) (f : Nat → Int) (a c x y e0 x2 y2 e2 : Int) (w : World) (hr : Hid (RowI w ad len f)) (hl : len < 9223372036854775808) (h1 : ThIs S len f a x y e0) (h2 : ThIs S len f c x2 y2 e2) (h3 : e0 ≠ 0) (hm : Hid (mayB W S B T len f = true)) :
    Calls Try.prog 5 #[.agg #[.int .i64 W, .int .i64 S, .int .i64 B, .int .i64 T, .slice ad len cap], .int .i64 a, .int .i64 c] w fun e w' => e = .returned (.bool true) ∧ Below w.heap.size w w' := by
  have K0 : Hid (Ar w (w.alloc (.cells #[.int .i64 W, .int .i64 S, .int .i64 B, .int .i64 T, .slice ad len cap] 24)) w.heap.size W S B T ad len cap f) := Ar.start hr.out
  go_enter Try.func5, Try.ntmps5
  go_wp2_with fail
  generalize w.alloc (.cells #[.int .i64 W, .int .i64 S, .int .i64 B, .int .i64 T, .slice ad len cap] 24) = w0 at *
  generalize hN : w.heap.size = N at *
  refine (speaks14 _).mono ?_
  rintro e w1 ⟨rfl, hb⟩
  have K1 := Lib.hid (K0.out.next hb)
  clear hb K0 
  obtain ⟨c0, c1, c2, c3, c4⟩ := cfg_cells K1.out.c
  go_wp2_with fail
  refine (rmay_any W S B T ad len cap f _ K1.out.r hl).mono ?_
  rintro e w2 ⟨he, hb⟩
  obtain rfl : e = .returned (.bool true) := by rw [he, hm.out]
  clear he
  have K2 := Lib.hid (K1.out.next hb)
  clear hb K1 
  clear c0 c1 c2 c3 c4
  obtain ⟨c0, c1, c2, c3, c4⟩ := cfg_cells K2.out.c
  obtain ⟨⟨w1, w2⟩, ⟨s1, s2⟩, ⟨b1, b2⟩, ⟨t1, t2⟩, ⟨l1, l2⟩, hcls⟩ := may_nums hm.out
  clear hcls w1 w2 b1 b2 t1 t2
  go_wp2_with fail
  refine (check_alloc W S B T ad len cap f a x y e0 _ (Lib.hid K2.out.r) hl (by omega) (by omega) h1).mono ?_
  rintro e w3 ⟨rfl, hb⟩
  have K3 := Lib.hid (K2.out.next hb)
  clear hb K2 
  clear c0 c1 c2 c3 c4
  obtain ⟨c0, c1, c2, c3, c4⟩ := cfg_cells K3.out.c
  have hba := below_alloc w3 (.cells #[.int .i64 x, .int .i64 y] 30)
  have X4 := Lib.hid (Two5.new w3 30 x y)
  have K4 := Lib.hid (K3.out.next hba)
  have lN3 := K3.out.lt
  have lM3 : ¬ N = w3.heap.size := by omega
  clear hba
  go_wp2_with fail
  generalize w3.alloc (.cells #[.int .i64 x, .int .i64 y] 30) = w4 at *
  generalize hM3 : w3.heap.size = MX at *
  clear K3 lN3 lM3 hM3 
  clear c0 c1 c2 c3 c4
  obtain ⟨c0, c1, c2, c3, c4⟩ := cfg_cells K4.out.c
  obtain ⟨Xa, Xb⟩ := X4.out.cells
  refine (check_alloc W S B T ad len cap f c x2 y2 e2 _ (Lib.hid K4.out.r) hl (by omega) (by omega) h2).mono ?_
  rintro e w5 ⟨rfl, hb⟩
  have K5 := Lib.hid (K4.out.next hb)
  have X5 := Lib.hid (X4.out.next hb)
  clear hb K4 X4
  clear c0 c1 c2 c3 c4 Xa Xb
  obtain ⟨c0, c1, c2, c3, c4⟩ := cfg_cells K5.out.c
  obtain ⟨Xa, Xb⟩ := X5.out.cells
  have d1 : (e0 != 0) = true := by simpa using h3
  have hba := below_alloc w5 (.cells #[.int .i64 x2, .int .i64 y2] 30)
  have Y6 := Lib.hid (Two5.new w5 30 x2 y2)
  have K6 := Lib.hid (K5.out.next hba)
  have lN5 := K5.out.lt
  have lM5 : ¬ N = w5.heap.size := by omega
  have X6 := Lib.hid (X5.out.next hba)
  have lX5 := X5.out.lt
  clear hba
  go_wp2_with fail
  generalize w5.alloc (.cells #[.int .i64 x2, .int .i64 y2] 30) = w6 at *
  generalize hM5 : w5.heap.size = MY at *
  clear K5 lN5 lM5 hM5 X5 lX5
  clear c0 c1 c2 c3 c4 Xa Xb
  obtain ⟨c0, c1, c2, c3, c4⟩ := cfg_cells K6.out.c
  obtain ⟨Xa, Xb⟩ := X6.out.cells
  obtain ⟨Ya, Yb⟩ := Y6.out.cells
  go_ret
  exact ⟨rfl, by first | exact K6.out.b | (rw [hN]; exact K6.out.b)⟩
set_option maxRecDepth 20000 in
set_option maxHeartbeats 4000000 in
theorem rises14_bad2 (W S B T : Int) (ad : Option Addr) (len cap : Nat) (f : Nat → Int) (a c x y e0 x2 y2 e2 : Int) (w : World) (hr : Hid (RowI w ad len f)) (hl : len < 9223372036854775808) (h1 : ThIs S len f a x y e0) (h2 : ThIs S len f c x2 y2 e2) (h3 : e0 = 0) (h4 : e2 ≠ 0) (hm : Hid (mayB W S B T len f = true)) :
    Calls Try.prog 5 #[.agg #[.int .i64 W, .int .i64 S, .int .i64 B, .int .i64 T, .slice ad len cap], .int .i64 a, .int .i64 c] w fun e w' => e = .returned (.bool true) ∧ Below w.heap.size w w' := by
  have K0 : Hid (Ar w (w.alloc (.cells #[.int .i64 W, .int .i64 S, .int .i64 B, .int .i64 T, .slice ad len cap] 24)) w.heap.size W S B T ad len cap f) := Ar.start hr.out
  go_enter Try.func5, Try.ntmps5
  go_wp2_with fail
  generalize w.alloc (.cells #[.int .i64 W, .int .i64 S, .int .i64 B, .int .i64 T, .slice ad len cap] 24) = w0 at *
  generalize hN : w.heap.size = N at *
  refine (speaks14 _).mono ?_
  rintro e w1 ⟨rfl, hb⟩
  have K1 := Lib.hid (K0.out.next hb)
  clear hb K0 
  obtain ⟨c0, c1, c2, c3, c4⟩ := cfg_cells K1.out.c
  go_wp2_with fail
  refine (rmay_any W S B T ad len cap f _ K1.out.r hl).mono ?_
  rintro e w2 ⟨he, hb⟩
  obtain rfl : e = .returned (.bool true) := by rw [he, hm.out]
  clear he
  have K2 := Lib.hid (K1.out.next hb)
  clear hb K1 
  clear c0 c1 c2 c3 c4
  obtain ⟨c0, c1, c2, c3, c4⟩ := cfg_cells K2.out.c
  obtain ⟨⟨w1, w2⟩, ⟨s1, s2⟩, ⟨b1, b2⟩, ⟨t1, t2⟩, ⟨l1, l2⟩, hcls⟩ := may_nums hm.out
  clear hcls w1 w2 b1 b2 t1 t2
  go_wp2_with fail
  refine (check_alloc W S B T ad len cap f a x y e0 _ (Lib.hid K2.out.r) hl (by omega) (by omega) h1).mono ?_
  rintro e w3 ⟨rfl, hb⟩
  have K3 := Lib.hid (K2.out.next hb)
  clear hb K2 
  clear c0 c1 c2 c3 c4
  obtain ⟨c0, c1, c2, c3, c4⟩ := cfg_cells K3.out.c
  have hba := below_alloc w3 (.cells #[.int .i64 x, .int .i64 y] 30)
  have X4 := Lib.hid (Two5.new w3 30 x y)
  have K4 := Lib.hid (K3.out.next hba)
  have lN3 := K3.out.lt
  have lM3 : ¬ N = w3.heap.size := by omega
  clear hba
  go_wp2_with fail
  generalize w3.alloc (.cells #[.int .i64 x, .int .i64 y] 30) = w4 at *
  generalize hM3 : w3.heap.size = MX at *
  clear K3 lN3 lM3 hM3 
  clear c0 c1 c2 c3 c4
  obtain ⟨c0, c1, c2, c3, c4⟩ := cfg_cells K4.out.c
  obtain ⟨Xa, Xb⟩ := X4.out.cells
  refine (check_alloc W S B T ad len cap f c x2 y2 e2 _ (Lib.hid K4.out.r) hl (by omega) (by omega) h2).mono ?_
  rintro e w5 ⟨rfl, hb⟩
  have K5 := Lib.hid (K4.out.next hb)
  have X5 := Lib.hid (X4.out.next hb)
  clear hb K4 X4
  clear c0 c1 c2 c3 c4 Xa Xb
  obtain ⟨c0, c1, c2, c3, c4⟩ := cfg_cells K5.out.c
  obtain ⟨Xa, Xb⟩ := X5.out.cells
  have d1 : (e0 != 0) = false := by simpa using h3
  have d2 : (e2 != 0) = true := by simpa using h4
  have hba := below_alloc w5 (.cells #[.int .i64 x2, .int .i64 y2] 30)
  have Y6 := Lib.hid (Two5.new w5 30 x2 y2)
  have K6 := Lib.hid (K5.out.next hba)
  have lN5 := K5.out.lt
  have lM5 : ¬ N = w5.heap.size := by omega
  have X6 := Lib.hid (X5.out.next hba)
  have lX5 := X5.out.lt
  clear hba
  go_wp2_with fail
  generalize w5.alloc (.cells #[.int .i64 x2, .int .i64 y2] 30) = w6 at *
  generalize hM5 : w5.heap.size = MY at *
  clear K5 lN5 lM5 hM5 X5 lX5
  clear c0 c1 c2 c3 c4 Xa Xb
  obtain ⟨c0, c1, c2, c3, c4⟩ := cfg_cells K6.out.c
  obtain ⟨Xa, Xb⟩ := X6.out.cells
  obtain ⟨Ya, Yb⟩ := Y6.out.cells
  go_ret
  exact ⟨rfl, by first | exact K6.out.b | (rw [hN]; exact K6.out.b)⟩
set_option maxRecDepth 20000 in
set_option maxHeartbeats 4000000 in
theorem rises14_gt (W S B T : Int) (ad : Option Addr) (len cap : Nat) (f : Nat → Int) (a c x y e0 x2 y2 e2 : Int) (w : World) (hr : Hid (RowI w ad len f)) (hl : len < 9223372036854775808) (h1 : ThIs S len f a x y e0) (h2 : ThIs S len f c x2 y2 e2) (h3 : e0 = 0) (h4 : e2 = 0) (h5 : c < a) (hm : Hid (mayB W S B T len f = true)) :
    Calls Try.prog 5 #[.agg #[.int .i64 W, .int .i64 S, .int .i64 B, .int .i64 T, .slice ad len cap], .int .i64 a, .int .i64 c] w fun e w' => e = .returned (.bool true) ∧ Below w.heap.size w w' := by
  have K0 : Hid (Ar w (w.alloc (.cells #[.int .i64 W, .int .i64 S, .int .i64 B, .int .i64 T, .slice ad len cap] 24)) w.heap.size W S B T ad len cap f) := Ar.start hr.out
  go_enter Try.func5, Try.ntmps5
  go_wp2_with fail
  generalize w.alloc (.cells #[.int .i64 W, .int .i64 S, .int .i64 B, .int .i64 T, .slice ad len cap] 24) = w0 at *
  generalize hN : w.heap.size = N at *
  refine (speaks14 _).mono ?_
  rintro e w1 ⟨rfl, hb⟩
  have K1 := Lib.hid (K0.out.next hb)
  clear hb K0 
  obtain ⟨c0, c1, c2, c3, c4⟩ := cfg_cells K1.out.c
  go_wp2_with fail
  refine (rmay_any W S B T ad len cap f _ K1.out.r hl).mono ?_
  rintro e w2 ⟨he, hb⟩
  obtain rfl : e = .returned (.bool true) := by rw [he, hm.out]
  clear he
  have K2 := Lib.hid (K1.out.next hb)
  clear hb K1 
  clear c0 c1 c2 c3 c4
  obtain ⟨c0, c1, c2, c3, c4⟩ := cfg_cells K2.out.c
  obtain ⟨⟨w1, w2⟩, ⟨s1, s2⟩, ⟨b1, b2⟩, ⟨t1, t2⟩, ⟨l1, l2⟩, hcls⟩ := may_nums hm.out
  clear hcls w1 w2 b1 b2 t1 t2
  go_wp2_with fail
  refine (check_alloc W S B T ad len cap f a x y e0 _ (Lib.hid K2.out.r) hl (by omega) (by omega) h1).mono ?_
  rintro e w3 ⟨rfl, hb⟩
  have K3 := Lib.hid (K2.out.next hb)
  clear hb K2 
  clear c0 c1 c2 c3 c4
  obtain ⟨c0, c1, c2, c3, c4⟩ := cfg_cells K3.out.c
  have hba := below_alloc w3 (.cells #[.int .i64 x, .int .i64 y] 30)
  have X4 := Lib.hid (Two5.new w3 30 x y)
  have K4 := Lib.hid (K3.out.next hba)
  have lN3 := K3.out.lt
  have lM3 : ¬ N = w3.heap.size := by omega
  clear hba
  go_wp2_with fail
  generalize w3.alloc (.cells #[.int .i64 x, .int .i64 y] 30) = w4 at *
  generalize hM3 : w3.heap.size = MX at *
  clear K3 lN3 lM3 hM3 
  clear c0 c1 c2 c3 c4
  obtain ⟨c0, c1, c2, c3, c4⟩ := cfg_cells K4.out.c
  obtain ⟨Xa, Xb⟩ := X4.out.cells
  refine (check_alloc W S B T ad len cap f c x2 y2 e2 _ (Lib.hid K4.out.r) hl (by omega) (by omega) h2).mono ?_
  rintro e w5 ⟨rfl, hb⟩
  have K5 := Lib.hid (K4.out.next hb)
  have X5 := Lib.hid (X4.out.next hb)
  clear hb K4 X4
  clear c0 c1 c2 c3 c4 Xa Xb
  obtain ⟨c0, c1, c2, c3, c4⟩ := cfg_cells K5.out.c
  obtain ⟨Xa, Xb⟩ := X5.out.cells
  have d1 : (e0 != 0) = false := by simpa using h3
  have d2 : (e2 != 0) = false := by simpa using h4
  have d3 : decide (c < a) = true := by simpa using h5
  have hba := below_alloc w5 (.cells #[.int .i64 x2, .int .i64 y2] 30)
  have Y6 := Lib.hid (Two5.new w5 30 x2 y2)
  have K6 := Lib.hid (K5.out.next hba)
  have lN5 := K5.out.lt
  have lM5 : ¬ N = w5.heap.size := by omega
  have X6 := Lib.hid (X5.out.next hba)
  have lX5 := X5.out.lt
  clear hba
  go_wp2_with fail
  generalize w5.alloc (.cells #[.int .i64 x2, .int .i64 y2] 30) = w6 at *
  generalize hM5 : w5.heap.size = MY at *
  clear K5 lN5 lM5 hM5 X5 lX5
  clear c0 c1 c2 c3 c4 Xa Xb
  obtain ⟨c0, c1, c2, c3, c4⟩ := cfg_cells K6.out.c
  obtain ⟨Xa, Xb⟩ := X6.out.cells
  obtain ⟨Ya, Yb⟩ := Y6.out.cells
  clear c0 c1 c2 c3 c4 Xa Xb Ya Yb
  obtain ⟨c0, c1, c2, c3, c4⟩ := cfg_cells K6.out.c
  obtain ⟨Xa, Xb⟩ := X6.out.cells
  obtain ⟨Ya, Yb⟩ := Y6.out.cells
  have kc0 := cell_regrown c0
  have kc1 := cell_regrown c1
  have kc2 := cell_regrown c2
  have kc3 := cell_regrown c3
  have kc4 := cell_regrown c4
  have kXa := cell_regrown Xa
  have kXb := cell_regrown Xb
  have kYa := cell_regrown Ya
  have kYb := cell_regrown Yb
  clear c0 c1 c2 c3 c4 Xa Xb Ya Yb
  refine wp_region_quiet_below (by kernel_rfl) (by kernel_rfl) ?_
  repeat (go_big_quiet_step (fail))
  refine wpQuiet_nil ?_
  intro _ hw'
  obtain ⟨⟨dq, osq⟩, hw''⟩ := hw'
  subst hw''
  have K7 := Lib.hid (K6.out.grown dq osq)
  have X7 := Lib.hid (X6.out.next (below_regrown w6 dq osq))
  have Y7 := Lib.hid (Y6.out.next (below_regrown w6 dq osq))
  generalize Sort.grow (redrawn w6 dq) osq = w7 at *
  clear kc0 kc1 kc2 kc3 kc4 kXa kXb kYa kYb  K6 X6 Y6
  obtain ⟨c0, c1, c2, c3, c4⟩ := cfg_cells K7.out.c
  obtain ⟨Xa, Xb⟩ := X7.out.cells
  obtain ⟨Ya, Yb⟩ := Y7.out.cells
  go_wp2_with fail
  go_ret
  exact ⟨rfl, by first | exact K7.out.b | (rw [hN]; exact K7.out.b)⟩
set_option maxRecDepth 20000 in
set_option maxHeartbeats 4000000 in
theorem rises14_le (W S B T : Int) (ad : Option Addr) (len cap : Nat) (f : Nat → Int) (a c x y e0 x2 y2 e2 : Int) (w : World) (hr : Hid (RowI w ad len f)) (hl : len < 9223372036854775808) (h1 : ThIs S len f a x y e0) (h2 : ThIs S len f c x2 y2 e2) (h3 : e0 = 0) (h4 : e2 = 0) (hac : a ≤ c) (h5 : Hid (szT S len f x y ≤ szT S len f x2 y2)) (hm : Hid (mayB W S B T len f = true)) :
    Calls Try.prog 5 #[.agg #[.int .i64 W, .int .i64 S, .int .i64 B, .int .i64 T, .slice ad len cap], .int .i64 a, .int .i64 c] w fun e w' => e = .returned (.bool true) ∧ Below w.heap.size w w' := by
  have K0 : Hid (Ar w (w.alloc (.cells #[.int .i64 W, .int .i64 S, .int .i64 B, .int .i64 T, .slice ad len cap] 24)) w.heap.size W S B T ad len cap f) := Ar.start hr.out
  go_enter Try.func5, Try.ntmps5
  go_wp2_with fail
  generalize w.alloc (.cells #[.int .i64 W, .int .i64 S, .int .i64 B, .int .i64 T, .slice ad len cap] 24) = w0 at *
  generalize hN : w.heap.size = N at *
  refine (speaks14 _).mono ?_
  rintro e w1 ⟨rfl, hb⟩
  have K1 := Lib.hid (K0.out.next hb)
  clear hb K0 
  obtain ⟨c0, c1, c2, c3, c4⟩ := cfg_cells K1.out.c
  go_wp2_with fail
  refine (rmay_any W S B T ad len cap f _ K1.out.r hl).mono ?_
  rintro e w2 ⟨he, hb⟩
  obtain rfl : e = .returned (.bool true) := by rw [he, hm.out]
  clear he
  have K2 := Lib.hid (K1.out.next hb)
  clear hb K1 
  clear c0 c1 c2 c3 c4
  obtain ⟨c0, c1, c2, c3, c4⟩ := cfg_cells K2.out.c
  obtain ⟨⟨w1, w2⟩, ⟨s1, s2⟩, ⟨b1, b2⟩, ⟨t1, t2⟩, ⟨l1, l2⟩, hcls⟩ := may_nums hm.out
  clear hcls w1 w2 b1 b2 t1 t2
  go_wp2_with fail
  refine (check_alloc W S B T ad len cap f a x y e0 _ (Lib.hid K2.out.r) hl (by omega) (by omega) h1).mono ?_
  rintro e w3 ⟨rfl, hb⟩
  have K3 := Lib.hid (K2.out.next hb)
  clear hb K2 
  clear c0 c1 c2 c3 c4
  obtain ⟨c0, c1, c2, c3, c4⟩ := cfg_cells K3.out.c
  have hba := below_alloc w3 (.cells #[.int .i64 x, .int .i64 y] 30)
  have X4 := Lib.hid (Two5.new w3 30 x y)
  have K4 := Lib.hid (K3.out.next hba)
  have lN3 := K3.out.lt
  have lM3 : ¬ N = w3.heap.size := by omega
  clear hba
  go_wp2_with fail
  generalize w3.alloc (.cells #[.int .i64 x, .int .i64 y] 30) = w4 at *
  generalize hM3 : w3.heap.size = MX at *
  clear K3 lN3 lM3 hM3 
  clear c0 c1 c2 c3 c4
  obtain ⟨c0, c1, c2, c3, c4⟩ := cfg_cells K4.out.c
  obtain ⟨Xa, Xb⟩ := X4.out.cells
  refine (check_alloc W S B T ad len cap f c x2 y2 e2 _ (Lib.hid K4.out.r) hl (by omega) (by omega) h2).mono ?_
  rintro e w5 ⟨rfl, hb⟩
  have K5 := Lib.hid (K4.out.next hb)
  have X5 := Lib.hid (X4.out.next hb)
  clear hb K4 X4
  clear c0 c1 c2 c3 c4 Xa Xb
  obtain ⟨c0, c1, c2, c3, c4⟩ := cfg_cells K5.out.c
  obtain ⟨Xa, Xb⟩ := X5.out.cells
  have d1 : (e0 != 0) = false := by simpa using h3
  have d2 : (e2 != 0) = false := by simpa using h4
  have d3 : decide (c < a) = false := by simp; omega
  have hba := below_alloc w5 (.cells #[.int .i64 x2, .int .i64 y2] 30)
  have Y6 := Lib.hid (Two5.new w5 30 x2 y2)
  have K6 := Lib.hid (K5.out.next hba)
  have lN5 := K5.out.lt
  have lM5 : ¬ N = w5.heap.size := by omega
  have X6 := Lib.hid (X5.out.next hba)
  have lX5 := X5.out.lt
  clear hba
  go_wp2_with fail
  generalize w5.alloc (.cells #[.int .i64 x2, .int .i64 y2] 30) = w6 at *
  generalize hM5 : w5.heap.size = MY at *
  clear K5 lN5 lM5 hM5 X5 lX5
  clear c0 c1 c2 c3 c4 Xa Xb
  obtain ⟨c0, c1, c2, c3, c4⟩ := cfg_cells K6.out.c
  obtain ⟨Xa, Xb⟩ := X6.out.cells
  obtain ⟨Ya, Yb⟩ := Y6.out.cells
  have TS1 := Lib.hid fun w (hr : RowI w ad len f) => tsize_any W S B T ad len cap f x y w (Lib.hid hr) (by omega)
  have TS2 := Lib.hid fun w (hr : RowI w ad len f) => tsize_any W S B T ad len cap f x2 y2 w (Lib.hid hr) (by omega)
  have HS := h5.out
  generalize szT S len f x y = z1 at *
  generalize szT S len f x2 y2 = z2 at *
  have d4 : decide (z1 ≤ z2) = true := by simpa using HS
  clear c0 c1 c2 c3 c4 Xa Xb Ya Yb
  obtain ⟨c0, c1, c2, c3, c4⟩ := cfg_cells K6.out.c
  obtain ⟨Xa, Xb⟩ := X6.out.cells
  obtain ⟨Ya, Yb⟩ := Y6.out.cells
  have kc0 := cell_regrown c0
  have kc1 := cell_regrown c1
  have kc2 := cell_regrown c2
  have kc3 := cell_regrown c3
  have kc4 := cell_regrown c4
  have kXa := cell_regrown Xa
  have kXb := cell_regrown Xb
  have kYa := cell_regrown Ya
  have kYb := cell_regrown Yb
  clear c0 c1 c2 c3 c4 Xa Xb Ya Yb
  have a0 := fun d os => Calls.regrown_of (TS1.out (grow (redrawn w6 d) os) ((K6.out.grown d os).r))
  have a1 := fun d os => Calls.regrown_of (TS2.out (grow (redrawn w6 d) os) ((K6.out.grown d os).r))
  refine wp_region_quiet_below (by kernel_rfl) (by kernel_rfl) ?_
  repeat (go_big_quiet_step (first | with_reducible exact a0 _ _ | with_reducible exact a1 _ _))
  refine wpQuiet_nil ?_
  intro _ hw'
  obtain ⟨⟨dq, osq⟩, hw''⟩ := hw'
  subst hw''
  have K7 := Lib.hid (K6.out.grown dq osq)
  have X7 := Lib.hid (X6.out.next (below_regrown w6 dq osq))
  have Y7 := Lib.hid (Y6.out.next (below_regrown w6 dq osq))
  generalize Sort.grow (redrawn w6 dq) osq = w7 at *
  clear kc0 kc1 kc2 kc3 kc4 kXa kXb kYa kYb a0 a1 K6 X6 Y6
  obtain ⟨c0, c1, c2, c3, c4⟩ := cfg_cells K7.out.c
  obtain ⟨Xa, Xb⟩ := X7.out.cells
  obtain ⟨Ya, Yb⟩ := Y7.out.cells
  go_wp2_with fail
  go_ret
  exact ⟨rfl, by first | exact K7.out.b | (rw [hN]; exact K7.out.b)⟩
theorem rises14_walk (W S B T : Int) (ad : Option Addr) (len cap : Nat) (f : Nat → Int) (a c : Int) (w : World) (hr : RowI w ad len f) (hl : len < 9223372036854775808) :
    Calls Try.prog 5 #[.agg #[.int .i64 W, .int .i64 S, .int .i64 B, .int .i64 T, .slice ad len cap], .int .i64 a, .int .i64 c] w fun e w' => e = .returned (.bool true) ∧ Below w.heap.size w w' := by
  have hr' := Lib.hid hr
  rcases h : mayB W S B T len f with _ | _
  · exact rises14_no W S B T ad len cap f a c w hr' hl (Lib.hid h)
  · have hm := Lib.hid h
    have ok := cls_ok (may_nums h).2.2.2.2.2
    obtain ⟨x, y, e, t1⟩ := th_ex S len f a
    obtain ⟨x2, y2, e2, t2⟩ := th_ex S len f c
    by_cases h3 : e = 0
    · by_cases h4 : e2 = 0
      · by_cases h5 : c < a
        · exact rises14_gt W S B T ad len cap f a c x y e x2 y2 e2 w hr' hl t1 t2 h3 h4 h5 hm
        · exact rises14_le W S B T ad len cap f a c x y e x2 y2 e2 w hr' hl t1 t2 h3 h4 (by omega) (Lib.hid (th_rise ok (h3 ▸ t1) (h4 ▸ t2) (by omega))) hm
      · exact rises14_bad2 W S B T ad len cap f a c x y e x2 y2 e2 w hr' hl t1 t2 h3 h4 hm
    · exact rises14_bad W S B T ad len cap f a c x y e x2 y2 e2 w hr' hl t1 t2 h3 hm
end Go.Proofs.Ytchkgmknhndccaa
