/-
  The example of layer 14's statements, and the walks of AskChecks, AskFits, AskRises.
-/
import Derived.Test.YtchkgmknhndccaaAsk1
import Derived.Test.YtchkgmknhndccaaQuiet5
namespace Go.Proofs.Ytchkgmknhndccaa
open Go.RowKit Go.Sort

set_option maxRecDepth 20000 in
set_option maxHeartbeats 4000000 in
theorem speaks14 (w : World) : Calls Try.prog 6 #[] w fun e w' => e = .returned (.bool true) ∧ Below w.heap.size w w' := by
  have b1 := Lib.hid (below_alloc w (.cells #[.int .i64 16, .int .i64 64] 3))
  have k2 : Ar (w.alloc (.cells #[.int .i64 16, .int .i64 64] 3)) ((w.alloc (.cells #[.int .i64 16, .int .i64 64] 3)).alloc (.cells #[.int .i64 1, .int .i64 1, .int .i64 1, .int .i64 0, .slice (some ⟨w.heap.size, 0, none⟩) 2 2] 24)) (w.alloc (.cells #[.int .i64 16, .int .i64 64] 3)).heap.size 1 1 1 0 (some ⟨w.heap.size, 0, none⟩) 2 2 fS := Ar.start (row_S (heap_at w (.cells #[.int .i64 16, .int .i64 64] 3)))
  rw [show (w.alloc (.cells #[.int .i64 16, .int .i64 64] 3)).heap.size = w.heap.size + 1 from by simp] at k2
  have K0 := Lib.hid k2
  have HE : Hid (∀ w', Below (w.heap.size + 1) (w.alloc (.cells #[.int .i64 16, .int .i64 64] 3)) w' → Below w.heap.size w w') := fun w' h => b1.out.trans (h.mono (Nat.le_succ _))
  clear k2
  have T1 : ThIs 1 2 fS 17 1 0 0 := .cls 1 (by decide) (by decide) (by decide) (Lib.hid fun j hj => (by omega : j = 0) ▸ (by decide))
  have T2 : ThIs 1 2 fS 65 (-1) 1 0 := .run 1 (by decide) (Lib.hid fun j hj => by rcases (by omega : j = 0 ∨ j = 1) with rfl | rfl <;> decide) (by decide) (Lib.hid (by decide)) (by decide) (by decide)
  have T3 : ThIs 1 2 fS 1025 0 0 3 := .big (by decide) (Lib.hid fun j hj => by rcases (by omega : j = 0 ∨ j = 1) with rfl | rfl <;> decide) (by decide)
  go_enter Try.func6, Try.ntmps6
  go_wp2_with fail
  generalize (w.alloc (.cells #[.int .i64 16, .int .i64 64] 3)).alloc (.cells #[.int .i64 1, .int .i64 1, .int .i64 1, .int .i64 0, .slice (some ⟨w.heap.size, 0, none⟩) 2 2] 24) = w0 at *
  generalize (w.alloc (.cells #[.int .i64 16, .int .i64 64] 3)) = wx at *
  generalize hb : w.heap.size = b at *
  generalize b + 1 = N at *
  refine (check_alloc 1 1 1 0 _ 2 2 fS 17 1 0 0 _ (Lib.hid K0.out.r) (by decide) (by decide) (by decide) T1).mono ?_
  rintro e w1 ⟨rfl, hb⟩
  have K1 := Lib.hid (K0.out.next hb)
  clear hb K0 
  obtain ⟨c0, c1, c2, c3, c4⟩ := cfg_cells K1.out.c
  have hba := below_alloc w1 (.cells #[.int .i64 1, .int .i64 0] 30)
  have X2 := Lib.hid (Two5.new w1 30 1 0)
  have K2 := Lib.hid (K1.out.next hba)
  have lN1 := K1.out.lt
  have lM1 : ¬ N = w1.heap.size := by omega
  clear hba
  go_wp2_with fail
  generalize w1.alloc (.cells #[.int .i64 1, .int .i64 0] 30) = w2 at *
  generalize hM1 : w1.heap.size = MX at *
  clear K1 lN1 lM1 hM1 
  clear c0 c1 c2 c3 c4
  obtain ⟨c0, c1, c2, c3, c4⟩ := cfg_cells K2.out.c
  obtain ⟨Xa, Xb⟩ := X2.out.cells
  refine (check_alloc 1 1 1 0 _ 2 2 fS 65 (-1) 1 0 _ (Lib.hid K2.out.r) (by decide) (by decide) (by decide) T2).mono ?_
  rintro e w3 ⟨rfl, hb⟩
  have K3 := Lib.hid (K2.out.next hb)
  have X3 := Lib.hid (X2.out.next hb)
  clear hb K2 X2
  clear c0 c1 c2 c3 c4 Xa Xb
  obtain ⟨c0, c1, c2, c3, c4⟩ := cfg_cells K3.out.c
  obtain ⟨Xa, Xb⟩ := X3.out.cells
  have hba := below_alloc w3 (.cells #[.int .i64 (-1), .int .i64 1] 30)
  have Y4 := Lib.hid (Two5.new w3 30 (-1) 1)
  have K4 := Lib.hid (K3.out.next hba)
  have lN3 := K3.out.lt
  have lM3 : ¬ N = w3.heap.size := by omega
  have X4 := Lib.hid (X3.out.next hba)
  have lX3 := X3.out.lt
  clear hba
  go_wp2_with fail
  generalize w3.alloc (.cells #[.int .i64 (-1), .int .i64 1] 30) = w4 at *
  generalize hM3 : w3.heap.size = MY at *
  clear K3 lN3 lM3 hM3 X3 lX3
  clear c0 c1 c2 c3 c4 Xa Xb
  obtain ⟨c0, c1, c2, c3, c4⟩ := cfg_cells K4.out.c
  obtain ⟨Xa, Xb⟩ := X4.out.cells
  obtain ⟨Ya, Yb⟩ := Y4.out.cells
  refine (check_alloc 1 1 1 0 _ 2 2 fS 1025 0 0 3 _ (Lib.hid K4.out.r) (by decide) (by decide) (by decide) T3).mono ?_
  rintro e w5 ⟨rfl, hb⟩
  have K5 := Lib.hid (K4.out.next hb)
  have X5 := Lib.hid (X4.out.next hb)
  have Y5 := Lib.hid (Y4.out.next hb)
  clear hb K4 X4 Y4
  clear c0 c1 c2 c3 c4 Xa Xb Ya Yb
  obtain ⟨c0, c1, c2, c3, c4⟩ := cfg_cells K5.out.c
  obtain ⟨Xa, Xb⟩ := X5.out.cells
  obtain ⟨Ya, Yb⟩ := Y5.out.cells
  have hba := below_alloc w5 (.cells #[.int .i64 0, .int .i64 0] 30)
  have Z6 := Lib.hid (Two5.new w5 30 0 0)
  have K6 := Lib.hid (K5.out.next hba)
  have lN5 := K5.out.lt
  have lM5 : ¬ N = w5.heap.size := by omega
  have X6 := Lib.hid (X5.out.next hba)
  have lX5 := X5.out.lt
  have Y6 := Lib.hid (Y5.out.next hba)
  have lY5 := Y5.out.lt
  clear hba
  go_wp2_with fail
  generalize w5.alloc (.cells #[.int .i64 0, .int .i64 0] 30) = w6 at *
  generalize hM5 : w5.heap.size = MZ at *
  clear K5 lN5 lM5 hM5 X5 lX5 Y5 lY5
  clear c0 c1 c2 c3 c4 Xa Xb Ya Yb
  obtain ⟨c0, c1, c2, c3, c4⟩ := cfg_cells K6.out.c
  obtain ⟨Xa, Xb⟩ := X6.out.cells
  obtain ⟨Ya, Yb⟩ := Y6.out.cells
  obtain ⟨Za, Zb⟩ := Z6.out.cells
  go_wp2_with fail
  clear c0 c1 c2 c3 c4 Xa Xb Ya Yb Za Zb
  obtain ⟨c0, c1, c2, c3, c4⟩ := cfg_cells K6.out.c
  obtain ⟨Xa, Xb⟩ := X6.out.cells
  obtain ⟨Ya, Yb⟩ := Y6.out.cells
  obtain ⟨Za, Zb⟩ := Z6.out.cells
  have kc0 := cell_regrown c0
  have kc1 := cell_regrown c1
  have kc2 := cell_regrown c2
  have kc3 := cell_regrown c3
  have kc4 := cell_regrown c4
  have kXa := cell_regrown Xa
  have kXb := cell_regrown Xb
  have kYa := cell_regrown Ya
  have kYb := cell_regrown Yb
  have kZa := cell_regrown Za
  have kZb := cell_regrown Zb
  clear c0 c1 c2 c3 c4 Xa Xb Ya Yb Za Zb
  have a0 := fun d os => Calls.regrown_of (lof_any 1 (grow (redrawn w6 d) os))
  have a1 := fun d os => Calls.regrown_of (lrun_any 1 (grow (redrawn w6 d) os))
  refine wp_region_quiet_below (by kernel_rfl) (by kernel_rfl) ?_
  repeat (go_big_quiet_step (first | with_reducible exact a0 _ _ | with_reducible exact a1 _ _))
  refine wpQuiet_nil ?_
  intro _ hw'
  obtain ⟨⟨dq, osq⟩, hw''⟩ := hw'
  subst hw''
  have K7 := Lib.hid (K6.out.grown dq osq)
  have X7 := Lib.hid (X6.out.next (below_regrown w6 dq osq))
  have Y7 := Lib.hid (Y6.out.next (below_regrown w6 dq osq))
  have Z7 := Lib.hid (Z6.out.next (below_regrown w6 dq osq))
  generalize Sort.grow (redrawn w6 dq) osq = w7 at *
  clear kc0 kc1 kc2 kc3 kc4 kXa kXb kYa kYb kZa kZb a0 a1 K6 X6 Y6 Z6
  obtain ⟨c0, c1, c2, c3, c4⟩ := cfg_cells K7.out.c
  obtain ⟨Xa, Xb⟩ := X7.out.cells
  obtain ⟨Ya, Yb⟩ := Y7.out.cells
  obtain ⟨Za, Zb⟩ := Z7.out.cells
  go_wp2_with fail
  go_ret
  exact ⟨rfl, by rw [hb]; exact HE.out _ K7.out.b⟩
set_option maxRecDepth 20000 in
set_option maxHeartbeats 4000000 in
theorem checks14_no (W S B T : Int) (ad : Option Addr) (len cap : Nat) (f : Nat → Int) (kd a : Int) (w : World) (hr : Hid (RowI w ad len f)) (hl : len < 9223372036854775808) (hm : Hid (mayB W S B T len f = false)) :
    Calls Try.prog 3 #[.agg #[.int .i64 W, .int .i64 S, .int .i64 B, .int .i64 T, .slice ad len cap], .agg #[.int .i64 kd, .int .i64 a]] w fun e w' => e = .returned (.bool true) ∧ Below w.heap.size w w' := by
  have hq := below_alloc (w.alloc (.cells #[.int .i64 W, .int .i64 S, .int .i64 B, .int .i64 T, .slice ad len cap] 24)) (.cells #[.int .i64 kd, .int .i64 a] 26)
  have K0 : Hid (Ar w ((w.alloc (.cells #[.int .i64 W, .int .i64 S, .int .i64 B, .int .i64 T, .slice ad len cap] 24)).alloc (.cells #[.int .i64 kd, .int .i64 a] 26)) w.heap.size W S B T ad len cap f) := (Ar.start hr.out).next hq
  have Q0' := Two5.new (w.alloc (.cells #[.int .i64 W, .int .i64 S, .int .i64 B, .int .i64 T, .slice ad len cap] 24)) 26 kd a
  rw [show (w.alloc (.cells #[.int .i64 W, .int .i64 S, .int .i64 B, .int .i64 T, .slice ad len cap] 24)).heap.size = w.heap.size + 1 from by simp] at Q0'
  have Q0 := Lib.hid Q0'
  clear hq Q0'
  go_enter Try.func3, Try.ntmps3
  go_wp2_with fail
  generalize (w.alloc (.cells #[.int .i64 W, .int .i64 S, .int .i64 B, .int .i64 T, .slice ad len cap] 24)).alloc (.cells #[.int .i64 kd, .int .i64 a] 26) = w0 at *
  generalize hN : w.heap.size = N at *
  refine (speaks14 _).mono ?_
  rintro e w1 ⟨rfl, hb⟩
  have K1 := Lib.hid (K0.out.next hb)
  have Q1 := Lib.hid (Q0.out.next hb)
  clear hb K0 Q0
  obtain ⟨c0, c1, c2, c3, c4⟩ := cfg_cells K1.out.c
  obtain ⟨Qa, Qb⟩ := Q1.out.cells
  go_wp2_with fail
  refine (rmay_any W S B T ad len cap f _ K1.out.r hl).mono ?_
  rintro e w2 ⟨he, hb⟩
  obtain rfl : e = .returned (.bool false) := by rw [he, hm.out]
  clear he
  have K2 := Lib.hid (K1.out.next hb)
  have Q2 := Lib.hid (Q1.out.next hb)
  clear hb K1 Q1
  clear c0 c1 c2 c3 c4 Qa Qb
  obtain ⟨c0, c1, c2, c3, c4⟩ := cfg_cells K2.out.c
  obtain ⟨Qa, Qb⟩ := Q2.out.cells
  go_wp2_with fail
  go_ret
  exact ⟨rfl, by first | exact K2.out.b | (rw [hN]; exact K2.out.b)⟩
set_option maxRecDepth 20000 in
set_option maxHeartbeats 4000000 in
theorem checks14_cls (W S B T : Int) (ad : Option Addr) (len cap : Nat) (f : Nat → Int) (a : Int) (i : Nat) (w : World) (hr : Hid (RowI w ad len f)) (hl : len < 9223372036854775808) (h : 1 ≤ a) (hi : i < len) (h2 : a ≤ f i) (h3 : Hid (∀ j, j < i → f j < a)) (hm : Hid (mayB W S B T len f = true)) :
    Calls Try.prog 3 #[.agg #[.int .i64 W, .int .i64 S, .int .i64 B, .int .i64 T, .slice ad len cap], .agg #[.int .i64 1, .int .i64 a]] w fun e w' => e = .returned (.bool true) ∧ Below w.heap.size w w' := by
  have hq := below_alloc (w.alloc (.cells #[.int .i64 W, .int .i64 S, .int .i64 B, .int .i64 T, .slice ad len cap] 24)) (.cells #[.int .i64 1, .int .i64 a] 26)
  have K0 : Hid (Ar w ((w.alloc (.cells #[.int .i64 W, .int .i64 S, .int .i64 B, .int .i64 T, .slice ad len cap] 24)).alloc (.cells #[.int .i64 1, .int .i64 a] 26)) w.heap.size W S B T ad len cap f) := (Ar.start hr.out).next hq
  have Q0' := Two5.new (w.alloc (.cells #[.int .i64 W, .int .i64 S, .int .i64 B, .int .i64 T, .slice ad len cap] 24)) 26 1 a
  rw [show (w.alloc (.cells #[.int .i64 W, .int .i64 S, .int .i64 B, .int .i64 T, .slice ad len cap] 24)).heap.size = w.heap.size + 1 from by simp] at Q0'
  have Q0 := Lib.hid Q0'
  clear hq Q0'
  go_enter Try.func3, Try.ntmps3
  go_wp2_with fail
  generalize (w.alloc (.cells #[.int .i64 W, .int .i64 S, .int .i64 B, .int .i64 T, .slice ad len cap] 24)).alloc (.cells #[.int .i64 1, .int .i64 a] 26) = w0 at *
  generalize hN : w.heap.size = N at *
  refine (speaks14 _).mono ?_
  rintro e w1 ⟨rfl, hb⟩
  have K1 := Lib.hid (K0.out.next hb)
  have Q1 := Lib.hid (Q0.out.next hb)
  clear hb K0 Q0
  obtain ⟨c0, c1, c2, c3, c4⟩ := cfg_cells K1.out.c
  obtain ⟨Qa, Qb⟩ := Q1.out.cells
  go_wp2_with fail
  refine (rmay_any W S B T ad len cap f _ K1.out.r hl).mono ?_
  rintro e w2 ⟨he, hb⟩
  obtain rfl : e = .returned (.bool true) := by rw [he, hm.out]
  clear he
  have K2 := Lib.hid (K1.out.next hb)
  have Q2 := Lib.hid (Q1.out.next hb)
  clear hb K1 Q1
  clear c0 c1 c2 c3 c4 Qa Qb
  obtain ⟨c0, c1, c2, c3, c4⟩ := cfg_cells K2.out.c
  obtain ⟨Qa, Qb⟩ := Q2.out.cells
  obtain ⟨⟨w1, w2⟩, ⟨s1, s2⟩, ⟨b1, b2⟩, ⟨t1, t2⟩, ⟨l1, l2⟩, hcls⟩ := may_nums hm.out
  have OK := Lib.hid (cls_ok hcls)
  clear hcls w1 w2 b1 b2 t1 t2
  go_wp2_with fail
  refine (check_alloc W S B T ad len cap f a i 0 0 _ (Lib.hid K2.out.r) hl (by omega) (by omega) (.cls i h hi h2 h3)).mono ?_
  rintro e w3 ⟨rfl, hb⟩
  have K3 := Lib.hid (K2.out.next hb)
  have Q3 := Lib.hid (Q2.out.next hb)
  clear hb K2 Q2
  clear c0 c1 c2 c3 c4 Qa Qb
  obtain ⟨c0, c1, c2, c3, c4⟩ := cfg_cells K3.out.c
  obtain ⟨Qa, Qb⟩ := Q3.out.cells
  have hba := below_alloc w3 (.cells #[.int .i64 (i : Int), .int .i64 0] 30)
  have X4 := Lib.hid (Two5.new w3 30 (i : Int) 0)
  have K4 := Lib.hid (K3.out.next hba)
  have lN3 := K3.out.lt
  have lM3 : ¬ N = w3.heap.size := by omega
  have Q4 := Lib.hid (Q3.out.next hba)
  have lQ3 := Q3.out.lt
  clear hba
  go_upto_region 6 with fail
  generalize w3.alloc (.cells #[.int .i64 (i : Int), .int .i64 0] 30) = w4 at *
  generalize hM3 : w3.heap.size = MX at *
  clear K3 lN3 lM3 hM3 Q3 lQ3
  clear c0 c1 c2 c3 c4 Qa Qb
  obtain ⟨c0, c1, c2, c3, c4⟩ := cfg_cells K4.out.c
  obtain ⟨Qa, Qb⟩ := Q4.out.cells
  obtain ⟨Xa, Xb⟩ := X4.out.cells
  go_cut [7] (fun u7 wx => wx = w4 ∧ u7 = .bool (grB S a))
  case first =>
    have hs : IntKind.i64.wrap (1024 * S) = 1024 * S := by rw [IntKind.wrap_i64]; omega
    have hs2 : IntKind.i64.wrap (65536 + 1024 * S) = 65536 + 1024 * S := by rw [IntKind.wrap_i64]; omega
    have HG : Hid (grB S a = (decide (65536 ≤ a) && decide (a < 65536 + 1024 * S) && decide (a % 16 = 0))) := rfl
    generalize grB S a = GB at *
    by_cases g0 : 65536 ≤ a
    · have e0 : decide (65536 ≤ a) = true := by simpa using g0
      by_cases g1 : a < 65536 + 1024 * S
      · have e1 : decide (a < 65536 + 1024 * S) = true := by simpa using g1
        have e2 : (a % 16 == 0) = decide (a % 16 = 0) := rfl
        go_wp2_with fail
        all_goals (go_meet; case rel => exact ⟨rfl, by rw [HG.out]; simp [*]⟩)
      · have e1 : decide (a < 65536 + 1024 * S) = false := by simpa using g1
        go_wp2_with fail
        all_goals (go_meet; case rel => exact ⟨rfl, by rw [HG.out]; simp [*]⟩)
    · have e0 : decide (65536 ≤ a) = false := by simpa using g0
      go_wp2_with fail
      all_goals (go_meet; case rel => exact ⟨rfl, by rw [HG.out]; simp [*]⟩)
  case rest =>
    obtain ⟨rfl, rfl⟩ := hcut
    generalize grB S a = GB at *
    have HG2 : Hid (∀ j, i ≤ j → j < len → a ≤ f j) := fun j h4 h5 => by
      by_cases e : i = j
      · subst e; exact h2
      · have := OK.out.up i j (by omega) h5; omega
    have RC := Lib.hid fun w (hr : RowI w ad len f) => rclass_yes W S B T ad len cap f a i w (Lib.hid hr) hl h hi HG2 h3
    have i0 : (0 : Int) ≤ (i : Int) := by omega
    have e0 : decide ((0 : Int) ≤ (i : Int)) = true := by simp
    clear HG2 h2
    go_wp2_with fail
    refine (RC.out _ K4.out.r).mono ?_
    rintro e w5 ⟨rfl, hb⟩
    have K5 := Lib.hid (K4.out.next hb)
    have Q5 := Lib.hid (Q4.out.next hb)
    have X5 := Lib.hid (X4.out.next hb)
    clear hb K4 Q4 X4
    clear c0 c1 c2 c3 c4 Qa Qb Xa Xb
    obtain ⟨c0, c1, c2, c3, c4⟩ := cfg_cells K5.out.c
    obtain ⟨Qa, Qb⟩ := Q5.out.cells
    obtain ⟨Xa, Xb⟩ := X5.out.cells
    go_wp2_with fail
    clear c0 c1 c2 c3 c4 Qa Qb Xa Xb
    obtain ⟨c0, c1, c2, c3, c4⟩ := cfg_cells K5.out.c
    obtain ⟨Qa, Qb⟩ := Q5.out.cells
    obtain ⟨Xa, Xb⟩ := X5.out.cells
    have kc0 := cell_regrown c0
    have kc1 := cell_regrown c1
    have kc2 := cell_regrown c2
    have kc3 := cell_regrown c3
    have kc4 := cell_regrown c4
    have kQa := cell_regrown Qa
    have kQb := cell_regrown Qb
    have kXa := cell_regrown Xa
    have kXb := cell_regrown Xb
    clear c0 c1 c2 c3 c4 Qa Qb Xa Xb
    have a0 := fun d os => Calls.regrown_of (RC.out (grow (redrawn w5 d) os) ((K5.out.grown d os).r))
    have a1 := fun d os => Calls.regrown_of (lof_any i (grow (redrawn w5 d) os))
    refine wp_region_quiet_below (by kernel_rfl) (by kernel_rfl) ?_
    repeat (go_big_quiet_step (first | with_reducible exact a0 _ _ | with_reducible exact a1 _ _))
    refine wpQuiet_nil ?_
    intro _ hw'
    obtain ⟨⟨dq, osq⟩, hw''⟩ := hw'
    subst hw''
    have K6 := Lib.hid (K5.out.grown dq osq)
    have Q6 := Lib.hid (Q5.out.next (below_regrown w5 dq osq))
    have X6 := Lib.hid (X5.out.next (below_regrown w5 dq osq))
    generalize Sort.grow (redrawn w5 dq) osq = w6 at *
    clear kc0 kc1 kc2 kc3 kc4 kQa kQb kXa kXb a0 a1 K5 Q5 X5
    obtain ⟨c0, c1, c2, c3, c4⟩ := cfg_cells K6.out.c
    obtain ⟨Qa, Qb⟩ := Q6.out.cells
    obtain ⟨Xa, Xb⟩ := X6.out.cells
    go_wp2_with fail
    go_ret
    exact ⟨rfl, by first | exact K6.out.b | (rw [hN]; exact K6.out.b)⟩
set_option maxRecDepth 20000 in
set_option maxHeartbeats 4000000 in
theorem checks14_run (W S B T : Int) (ad : Option Addr) (len cap : Nat) (f : Nat → Int) (a q : Int) (w : World) (hr : Hid (RowI w ad len f)) (hl : len < 9223372036854775808) (h : 1 ≤ a) (h3 : Hid (∀ j, j < len → f j < a)) (h4 : a ≤ 1024 * S) (hq : Hid (q = (a - 1) / 1024 + 1)) (q1 : 1 ≤ q) (q2 : q ≤ S) (hm : Hid (mayB W S B T len f = true)) :
    Calls Try.prog 3 #[.agg #[.int .i64 W, .int .i64 S, .int .i64 B, .int .i64 T, .slice ad len cap], .agg #[.int .i64 1, .int .i64 a]] w fun e w' => e = .returned (.bool true) ∧ Below w.heap.size w w' := by
  have hq := below_alloc (w.alloc (.cells #[.int .i64 W, .int .i64 S, .int .i64 B, .int .i64 T, .slice ad len cap] 24)) (.cells #[.int .i64 1, .int .i64 a] 26)
  have K0 : Hid (Ar w ((w.alloc (.cells #[.int .i64 W, .int .i64 S, .int .i64 B, .int .i64 T, .slice ad len cap] 24)).alloc (.cells #[.int .i64 1, .int .i64 a] 26)) w.heap.size W S B T ad len cap f) := (Ar.start hr.out).next hq
  have Q0' := Two5.new (w.alloc (.cells #[.int .i64 W, .int .i64 S, .int .i64 B, .int .i64 T, .slice ad len cap] 24)) 26 1 a
  rw [show (w.alloc (.cells #[.int .i64 W, .int .i64 S, .int .i64 B, .int .i64 T, .slice ad len cap] 24)).heap.size = w.heap.size + 1 from by simp] at Q0'
  have Q0 := Lib.hid Q0'
  clear hq Q0'
  go_enter Try.func3, Try.ntmps3
  go_wp2_with fail
  generalize (w.alloc (.cells #[.int .i64 W, .int .i64 S, .int .i64 B, .int .i64 T, .slice ad len cap] 24)).alloc (.cells #[.int .i64 1, .int .i64 a] 26) = w0 at *
  generalize hN : w.heap.size = N at *
  refine (speaks14 _).mono ?_
  rintro e w1 ⟨rfl, hb⟩
  have K1 := Lib.hid (K0.out.next hb)
  have Q1 := Lib.hid (Q0.out.next hb)
  clear hb K0 Q0
  obtain ⟨c0, c1, c2, c3, c4⟩ := cfg_cells K1.out.c
  obtain ⟨Qa, Qb⟩ := Q1.out.cells
  go_wp2_with fail
  refine (rmay_any W S B T ad len cap f _ K1.out.r hl).mono ?_
  rintro e w2 ⟨he, hb⟩
  obtain rfl : e = .returned (.bool true) := by rw [he, hm.out]
  clear he
  have K2 := Lib.hid (K1.out.next hb)
  have Q2 := Lib.hid (Q1.out.next hb)
  clear hb K1 Q1
  clear c0 c1 c2 c3 c4 Qa Qb
  obtain ⟨c0, c1, c2, c3, c4⟩ := cfg_cells K2.out.c
  obtain ⟨Qa, Qb⟩ := Q2.out.cells
  obtain ⟨⟨w1, w2⟩, ⟨s1, s2⟩, ⟨b1, b2⟩, ⟨t1, t2⟩, ⟨l1, l2⟩, hcls⟩ := may_nums hm.out
  clear hcls w1 w2 b1 b2 t1 t2
  go_wp2_with fail
  refine (check_alloc W S B T ad len cap f a (-1) q 0 _ (Lib.hid K2.out.r) hl (by omega) (by omega) (.run q h h3 h4 hq q1 q2)).mono ?_
  rintro e w3 ⟨rfl, hb⟩
  have K3 := Lib.hid (K2.out.next hb)
  have Q3 := Lib.hid (Q2.out.next hb)
  clear hb K2 Q2
  clear c0 c1 c2 c3 c4 Qa Qb
  obtain ⟨c0, c1, c2, c3, c4⟩ := cfg_cells K3.out.c
  obtain ⟨Qa, Qb⟩ := Q3.out.cells
  have hba := below_alloc w3 (.cells #[.int .i64 (-1), .int .i64 q] 30)
  have X4 := Lib.hid (Two5.new w3 30 (-1) q)
  have K4 := Lib.hid (K3.out.next hba)
  have lN3 := K3.out.lt
  have lM3 : ¬ N = w3.heap.size := by omega
  have Q4 := Lib.hid (Q3.out.next hba)
  have lQ3 := Q3.out.lt
  clear hba
  go_upto_region 6 with fail
  generalize w3.alloc (.cells #[.int .i64 (-1), .int .i64 q] 30) = w4 at *
  generalize hM3 : w3.heap.size = MX at *
  clear K3 lN3 lM3 hM3 Q3 lQ3
  clear c0 c1 c2 c3 c4 Qa Qb
  obtain ⟨c0, c1, c2, c3, c4⟩ := cfg_cells K4.out.c
  obtain ⟨Qa, Qb⟩ := Q4.out.cells
  obtain ⟨Xa, Xb⟩ := X4.out.cells
  go_cut [7] (fun u7 wx => wx = w4 ∧ u7 = .bool (grB S a))
  case first =>
    have hs : IntKind.i64.wrap (1024 * S) = 1024 * S := by rw [IntKind.wrap_i64]; omega
    have hs2 : IntKind.i64.wrap (65536 + 1024 * S) = 65536 + 1024 * S := by rw [IntKind.wrap_i64]; omega
    have HG : Hid (grB S a = (decide (65536 ≤ a) && decide (a < 65536 + 1024 * S) && decide (a % 16 = 0))) := rfl
    generalize grB S a = GB at *
    by_cases g0 : 65536 ≤ a
    · have e0 : decide (65536 ≤ a) = true := by simpa using g0
      by_cases g1 : a < 65536 + 1024 * S
      · have e1 : decide (a < 65536 + 1024 * S) = true := by simpa using g1
        have e2 : (a % 16 == 0) = decide (a % 16 = 0) := rfl
        go_wp2_with fail
        all_goals (go_meet; case rel => exact ⟨rfl, by rw [HG.out]; simp [*]⟩)
      · exact absurd (show a < 65536 + 1024 * S by omega) g1
    · have e0 : decide (65536 ≤ a) = false := by simpa using g0
      go_wp2_with fail
      all_goals (go_meet; case rel => exact ⟨rfl, by rw [HG.out]; simp [*]⟩)
  case rest =>
    obtain ⟨rfl, rfl⟩ := hcut
    generalize grB S a = GB at *
    have RC := Lib.hid fun w (hr : RowI w ad len f) => rclass_no W S B T ad len cap f a w (Lib.hid hr) hl (.inr h3.out)
    have RR : Hid (∀ w, RowI w ad len f → Calls Try.prog 11 #[.agg #[.int .i64 W, .int .i64 S, .int .i64 B, .int .i64 T, .slice ad len cap], .int .i64 a] w fun e w' => e = .returned (.int .i64 q) ∧ Below w.heap.size w w') := fun w hr => by
      have := rrun_no W S B T ad len cap f a w (Lib.hid hr) hl h h3 (by omega) (by omega)
      rw [show runI S a = q from by rw [hq.out]; unfold runI; rw [if_neg (by omega)]] at this
      exact this
    have e0 : decide (0 < q) = true := by simp; omega
    go_wp2_with fail
    refine (RC.out _ K4.out.r).mono ?_
    rintro e w5 ⟨rfl, hb⟩
    have K5 := Lib.hid (K4.out.next hb)
    have Q5 := Lib.hid (Q4.out.next hb)
    have X5 := Lib.hid (X4.out.next hb)
    clear hb K4 Q4 X4
    clear c0 c1 c2 c3 c4 Qa Qb Xa Xb
    obtain ⟨c0, c1, c2, c3, c4⟩ := cfg_cells K5.out.c
    obtain ⟨Qa, Qb⟩ := Q5.out.cells
    obtain ⟨Xa, Xb⟩ := X5.out.cells
    go_wp2_with fail
    refine (RR.out _ K5.out.r).mono ?_
    rintro e w6 ⟨rfl, hb⟩
    have K6 := Lib.hid (K5.out.next hb)
    have Q6 := Lib.hid (Q5.out.next hb)
    have X6 := Lib.hid (X5.out.next hb)
    clear hb K5 Q5 X5
    clear c0 c1 c2 c3 c4 Qa Qb Xa Xb
    obtain ⟨c0, c1, c2, c3, c4⟩ := cfg_cells K6.out.c
    obtain ⟨Qa, Qb⟩ := Q6.out.cells
    obtain ⟨Xa, Xb⟩ := X6.out.cells
    go_wp2_with fail
    clear c0 c1 c2 c3 c4 Qa Qb Xa Xb
    obtain ⟨c0, c1, c2, c3, c4⟩ := cfg_cells K6.out.c
    obtain ⟨Qa, Qb⟩ := Q6.out.cells
    obtain ⟨Xa, Xb⟩ := X6.out.cells
    have kc0 := cell_regrown c0
    have kc1 := cell_regrown c1
    have kc2 := cell_regrown c2
    have kc3 := cell_regrown c3
    have kc4 := cell_regrown c4
    have kQa := cell_regrown Qa
    have kQb := cell_regrown Qb
    have kXa := cell_regrown Xa
    have kXb := cell_regrown Xb
    clear c0 c1 c2 c3 c4 Qa Qb Xa Xb
    have a0 := fun d os => Calls.regrown_of (RR.out (grow (redrawn w6 d) os) ((K6.out.grown d os).r))
    have a1 := fun d os => Calls.regrown_of (lrun_any q (grow (redrawn w6 d) os))
    refine wp_region_quiet_below (by kernel_rfl) (by kernel_rfl) ?_
    repeat (go_big_quiet_step (first | with_reducible exact a0 _ _ | with_reducible exact a1 _ _))
    refine wpQuiet_nil ?_
    intro _ hw'
    obtain ⟨⟨dq, osq⟩, hw''⟩ := hw'
    subst hw''
    have K7 := Lib.hid (K6.out.grown dq osq)
    have Q7 := Lib.hid (Q6.out.next (below_regrown w6 dq osq))
    have X7 := Lib.hid (X6.out.next (below_regrown w6 dq osq))
    generalize Sort.grow (redrawn w6 dq) osq = w7 at *
    clear kc0 kc1 kc2 kc3 kc4 kQa kQb kXa kXb a0 a1 K6 Q6 X6
    obtain ⟨c0, c1, c2, c3, c4⟩ := cfg_cells K7.out.c
    obtain ⟨Qa, Qb⟩ := Q7.out.cells
    obtain ⟨Xa, Xb⟩ := X7.out.cells
    go_wp2_with fail
    go_ret
    exact ⟨rfl, by first | exact K7.out.b | (rw [hN]; exact K7.out.b)⟩
set_option maxRecDepth 20000 in
set_option maxHeartbeats 4000000 in
theorem checks14_none (W S B T : Int) (ad : Option Addr) (len cap : Nat) (f : Nat → Int) (a : Int) (w : World) (hr : Hid (RowI w ad len f)) (hl : len < 9223372036854775808) (h : ThIs S len f a 0 0 3) (RC : Hid (∀ w, RowI w ad len f → Calls Try.prog 9 #[.agg #[.int .i64 W, .int .i64 S, .int .i64 B, .int .i64 T, .slice ad len cap], .int .i64 a] w fun e w' => e = .returned (.int .i64 (-1)) ∧ Below w.heap.size w w')) (RR : Hid (∀ w, RowI w ad len f → Calls Try.prog 11 #[.agg #[.int .i64 W, .int .i64 S, .int .i64 B, .int .i64 T, .slice ad len cap], .int .i64 a] w fun e w' => e = .returned (.int .i64 0) ∧ Below w.heap.size w w')) (hm : Hid (mayB W S B T len f = true)) :
    Calls Try.prog 3 #[.agg #[.int .i64 W, .int .i64 S, .int .i64 B, .int .i64 T, .slice ad len cap], .agg #[.int .i64 1, .int .i64 a]] w fun e w' => e = .returned (.bool true) ∧ Below w.heap.size w w' := by
  have hq := below_alloc (w.alloc (.cells #[.int .i64 W, .int .i64 S, .int .i64 B, .int .i64 T, .slice ad len cap] 24)) (.cells #[.int .i64 1, .int .i64 a] 26)
  have K0 : Hid (Ar w ((w.alloc (.cells #[.int .i64 W, .int .i64 S, .int .i64 B, .int .i64 T, .slice ad len cap] 24)).alloc (.cells #[.int .i64 1, .int .i64 a] 26)) w.heap.size W S B T ad len cap f) := (Ar.start hr.out).next hq
  have Q0' := Two5.new (w.alloc (.cells #[.int .i64 W, .int .i64 S, .int .i64 B, .int .i64 T, .slice ad len cap] 24)) 26 1 a
  rw [show (w.alloc (.cells #[.int .i64 W, .int .i64 S, .int .i64 B, .int .i64 T, .slice ad len cap] 24)).heap.size = w.heap.size + 1 from by simp] at Q0'
  have Q0 := Lib.hid Q0'
  clear hq Q0'
  go_enter Try.func3, Try.ntmps3
  go_wp2_with fail
  generalize (w.alloc (.cells #[.int .i64 W, .int .i64 S, .int .i64 B, .int .i64 T, .slice ad len cap] 24)).alloc (.cells #[.int .i64 1, .int .i64 a] 26) = w0 at *
  generalize hN : w.heap.size = N at *
  refine (speaks14 _).mono ?_
  rintro e w1 ⟨rfl, hb⟩
  have K1 := Lib.hid (K0.out.next hb)
  have Q1 := Lib.hid (Q0.out.next hb)
  clear hb K0 Q0
  obtain ⟨c0, c1, c2, c3, c4⟩ := cfg_cells K1.out.c
  obtain ⟨Qa, Qb⟩ := Q1.out.cells
  go_wp2_with fail
  refine (rmay_any W S B T ad len cap f _ K1.out.r hl).mono ?_
  rintro e w2 ⟨he, hb⟩
  obtain rfl : e = .returned (.bool true) := by rw [he, hm.out]
  clear he
  have K2 := Lib.hid (K1.out.next hb)
  have Q2 := Lib.hid (Q1.out.next hb)
  clear hb K1 Q1
  clear c0 c1 c2 c3 c4 Qa Qb
  obtain ⟨c0, c1, c2, c3, c4⟩ := cfg_cells K2.out.c
  obtain ⟨Qa, Qb⟩ := Q2.out.cells
  obtain ⟨⟨w1, w2⟩, ⟨s1, s2⟩, ⟨b1, b2⟩, ⟨t1, t2⟩, ⟨l1, l2⟩, hcls⟩ := may_nums hm.out
  clear hcls w1 w2 b1 b2 t1 t2
  go_wp2_with fail
  refine (check_alloc W S B T ad len cap f a 0 0 3 _ (Lib.hid K2.out.r) hl (by omega) (by omega) h).mono ?_
  rintro e w3 ⟨rfl, hb⟩
  have K3 := Lib.hid (K2.out.next hb)
  have Q3 := Lib.hid (Q2.out.next hb)
  clear hb K2 Q2
  clear c0 c1 c2 c3 c4 Qa Qb
  obtain ⟨c0, c1, c2, c3, c4⟩ := cfg_cells K3.out.c
  obtain ⟨Qa, Qb⟩ := Q3.out.cells
  have hba := below_alloc w3 (.cells #[.int .i64 0, .int .i64 0] 30)
  have X4 := Lib.hid (Two5.new w3 30 0 0)
  have K4 := Lib.hid (K3.out.next hba)
  have lN3 := K3.out.lt
  have lM3 : ¬ N = w3.heap.size := by omega
  have Q4 := Lib.hid (Q3.out.next hba)
  have lQ3 := Q3.out.lt
  clear hba
  go_upto_region 6 with fail
  generalize w3.alloc (.cells #[.int .i64 0, .int .i64 0] 30) = w4 at *
  generalize hM3 : w3.heap.size = MX at *
  clear K3 lN3 lM3 hM3 Q3 lQ3
  clear c0 c1 c2 c3 c4 Qa Qb
  obtain ⟨c0, c1, c2, c3, c4⟩ := cfg_cells K4.out.c
  obtain ⟨Qa, Qb⟩ := Q4.out.cells
  obtain ⟨Xa, Xb⟩ := X4.out.cells
  go_cut [7] (fun u7 wx => wx = w4 ∧ u7 = .bool (grB S a))
  case first =>
    have hs : IntKind.i64.wrap (1024 * S) = 1024 * S := by rw [IntKind.wrap_i64]; omega
    have hs2 : IntKind.i64.wrap (65536 + 1024 * S) = 65536 + 1024 * S := by rw [IntKind.wrap_i64]; omega
    have HG : Hid (grB S a = (decide (65536 ≤ a) && decide (a < 65536 + 1024 * S) && decide (a % 16 = 0))) := rfl
    generalize grB S a = GB at *
    by_cases g0 : 65536 ≤ a
    · have e0 : decide (65536 ≤ a) = true := by simpa using g0
      by_cases g1 : a < 65536 + 1024 * S
      · have e1 : decide (a < 65536 + 1024 * S) = true := by simpa using g1
        have e2 : (a % 16 == 0) = decide (a % 16 = 0) := rfl
        go_wp2_with fail
        all_goals (go_meet; case rel => exact ⟨rfl, by rw [HG.out]; simp [*]⟩)
      · have e1 : decide (a < 65536 + 1024 * S) = false := by simpa using g1
        go_wp2_with fail
        all_goals (go_meet; case rel => exact ⟨rfl, by rw [HG.out]; simp [*]⟩)
    · have e0 : decide (65536 ≤ a) = false := by simpa using g0
      go_wp2_with fail
      all_goals (go_meet; case rel => exact ⟨rfl, by rw [HG.out]; simp [*]⟩)
  case rest =>
    obtain ⟨rfl, rfl⟩ := hcut
    generalize grB S a = GB at *
    go_wp2_with fail
    refine (RC.out _ K4.out.r).mono ?_
    rintro e w5 ⟨rfl, hb⟩
    have K5 := Lib.hid (K4.out.next hb)
    have Q5 := Lib.hid (Q4.out.next hb)
    have X5 := Lib.hid (X4.out.next hb)
    clear hb K4 Q4 X4
    clear c0 c1 c2 c3 c4 Qa Qb Xa Xb
    obtain ⟨c0, c1, c2, c3, c4⟩ := cfg_cells K5.out.c
    obtain ⟨Qa, Qb⟩ := Q5.out.cells
    obtain ⟨Xa, Xb⟩ := X5.out.cells
    go_wp2_with fail
    refine (RR.out _ K5.out.r).mono ?_
    rintro e w6 ⟨rfl, hb⟩
    have K6 := Lib.hid (K5.out.next hb)
    have Q6 := Lib.hid (Q5.out.next hb)
    have X6 := Lib.hid (X5.out.next hb)
    clear hb K5 Q5 X5
    clear c0 c1 c2 c3 c4 Qa Qb Xa Xb
    obtain ⟨c0, c1, c2, c3, c4⟩ := cfg_cells K6.out.c
    obtain ⟨Qa, Qb⟩ := Q6.out.cells
    obtain ⟨Xa, Xb⟩ := X6.out.cells
    go_wp2_with fail
    go_ret
    exact ⟨rfl, by first | exact K6.out.b | (rw [hN]; exact K6.out.b)⟩
set_option maxRecDepth 20000 in
set_option maxHeartbeats 4000000 in
theorem checks14_grain2 (W S B T : Int) (ad : Option Addr) (len cap : Nat) (f : Nat → Int) (a : Int) (w : World) (hr : Hid (RowI w ad len f)) (hl : len < 9223372036854775808) (h0 : 65536 ≤ a) (h1 : a < 65536 + 1024 * S) (h2 : Hid (a % 16 = 0)) (hm : Hid (mayB W S B T len f = true)) :
    Calls Try.prog 3 #[.agg #[.int .i64 W, .int .i64 S, .int .i64 B, .int .i64 T, .slice ad len cap], .agg #[.int .i64 2, .int .i64 a]] w fun e w' => e = .returned (.bool true) ∧ Below w.heap.size w w' := by
  have hq := below_alloc (w.alloc (.cells #[.int .i64 W, .int .i64 S, .int .i64 B, .int .i64 T, .slice ad len cap] 24)) (.cells #[.int .i64 2, .int .i64 a] 26)
  have K0 : Hid (Ar w ((w.alloc (.cells #[.int .i64 W, .int .i64 S, .int .i64 B, .int .i64 T, .slice ad len cap] 24)).alloc (.cells #[.int .i64 2, .int .i64 a] 26)) w.heap.size W S B T ad len cap f) := (Ar.start hr.out).next hq
  have Q0' := Two5.new (w.alloc (.cells #[.int .i64 W, .int .i64 S, .int .i64 B, .int .i64 T, .slice ad len cap] 24)) 26 2 a
  rw [show (w.alloc (.cells #[.int .i64 W, .int .i64 S, .int .i64 B, .int .i64 T, .slice ad len cap] 24)).heap.size = w.heap.size + 1 from by simp] at Q0'
  have Q0 := Lib.hid Q0'
  clear hq Q0'
  go_enter Try.func3, Try.ntmps3
  go_wp2_with fail
  generalize (w.alloc (.cells #[.int .i64 W, .int .i64 S, .int .i64 B, .int .i64 T, .slice ad len cap] 24)).alloc (.cells #[.int .i64 2, .int .i64 a] 26) = w0 at *
  generalize hN : w.heap.size = N at *
  refine (speaks14 _).mono ?_
  rintro e w1 ⟨rfl, hb⟩
  have K1 := Lib.hid (K0.out.next hb)
  have Q1 := Lib.hid (Q0.out.next hb)
  clear hb K0 Q0
  obtain ⟨c0, c1, c2, c3, c4⟩ := cfg_cells K1.out.c
  obtain ⟨Qa, Qb⟩ := Q1.out.cells
  go_wp2_with fail
  refine (rmay_any W S B T ad len cap f _ K1.out.r hl).mono ?_
  rintro e w2 ⟨he, hb⟩
  obtain rfl : e = .returned (.bool true) := by rw [he, hm.out]
  clear he
  have K2 := Lib.hid (K1.out.next hb)
  have Q2 := Lib.hid (Q1.out.next hb)
  clear hb K1 Q1
  clear c0 c1 c2 c3 c4 Qa Qb
  obtain ⟨c0, c1, c2, c3, c4⟩ := cfg_cells K2.out.c
  obtain ⟨Qa, Qb⟩ := Q2.out.cells
  obtain ⟨⟨w1, w2⟩, ⟨s1, s2⟩, ⟨b1, b2⟩, ⟨t1, t2⟩, ⟨l1, l2⟩, hcls⟩ := may_nums hm.out
  clear hcls w1 w2 b1 b2 t1 t2
  go_wp2_with fail
  refine (check_grain2 W S B T ad len cap a _ (by omega) (by omega) h0 h1 h2).mono ?_
  rintro e w3 ⟨rfl, hb⟩
  have K3 := Lib.hid (K2.out.next hb)
  have Q3 := Lib.hid (Q2.out.next hb)
  clear hb K2 Q2
  clear c0 c1 c2 c3 c4 Qa Qb
  obtain ⟨c0, c1, c2, c3, c4⟩ := cfg_cells K3.out.c
  obtain ⟨Qa, Qb⟩ := Q3.out.cells
  have hba := below_alloc w3 (.cells #[.int .i64 0, .int .i64 0] 30)
  have X4 := Lib.hid (Two5.new w3 30 0 0)
  have K4 := Lib.hid (K3.out.next hba)
  have lN3 := K3.out.lt
  have lM3 : ¬ N = w3.heap.size := by omega
  have Q4 := Lib.hid (Q3.out.next hba)
  have lQ3 := Q3.out.lt
  clear hba
  go_upto_region 6 with fail
  generalize w3.alloc (.cells #[.int .i64 0, .int .i64 0] 30) = w4 at *
  generalize hM3 : w3.heap.size = MX at *
  clear K3 lN3 lM3 hM3 Q3 lQ3
  clear c0 c1 c2 c3 c4 Qa Qb
  obtain ⟨c0, c1, c2, c3, c4⟩ := cfg_cells K4.out.c
  obtain ⟨Qa, Qb⟩ := Q4.out.cells
  obtain ⟨Xa, Xb⟩ := X4.out.cells
  go_cut [7] (fun u7 wx => wx = w4 ∧ u7 = .bool (grB S a))
  case first =>
    have hs : IntKind.i64.wrap (1024 * S) = 1024 * S := by rw [IntKind.wrap_i64]; omega
    have hs2 : IntKind.i64.wrap (65536 + 1024 * S) = 65536 + 1024 * S := by rw [IntKind.wrap_i64]; omega
    have HG : Hid (grB S a = (decide (65536 ≤ a) && decide (a < 65536 + 1024 * S) && decide (a % 16 = 0))) := rfl
    generalize grB S a = GB at *
    by_cases g0 : 65536 ≤ a
    · have e0 : decide (65536 ≤ a) = true := by simpa using g0
      by_cases g1 : a < 65536 + 1024 * S
      · have e1 : decide (a < 65536 + 1024 * S) = true := by simpa using g1
        have e2 : (a % 16 == 0) = decide (a % 16 = 0) := rfl
        go_wp2_with fail
        all_goals (go_meet; case rel => exact ⟨rfl, by rw [HG.out]; simp [*]⟩)
      · exact absurd h1 g1
    · exact absurd h0 g0
  case rest =>
    obtain ⟨rfl, rfl⟩ := hcut
    have hgb : Hid (grB S a = true) := by show _ = _; unfold grB; have := h2.out; simp; omega
    rw [hgb.out]
    go_wp2_with fail
    go_ret
    exact ⟨rfl, by first | exact K4.out.b | (rw [hN]; exact K4.out.b)⟩
set_option maxRecDepth 20000 in
set_option maxHeartbeats 4000000 in
theorem checks14_out2 (W S B T : Int) (ad : Option Addr) (len cap : Nat) (f : Nat → Int) (a : Int) (w : World) (hr : Hid (RowI w ad len f)) (hl : len < 9223372036854775808) (h : Hid (a < 65536 ∨ 65536 + 1024 * S ≤ a ∨ a % 16 ≠ 0)) (hm : Hid (mayB W S B T len f = true)) :
    Calls Try.prog 3 #[.agg #[.int .i64 W, .int .i64 S, .int .i64 B, .int .i64 T, .slice ad len cap], .agg #[.int .i64 2, .int .i64 a]] w fun e w' => e = .returned (.bool true) ∧ Below w.heap.size w w' := by
  have hq := below_alloc (w.alloc (.cells #[.int .i64 W, .int .i64 S, .int .i64 B, .int .i64 T, .slice ad len cap] 24)) (.cells #[.int .i64 2, .int .i64 a] 26)
  have K0 : Hid (Ar w ((w.alloc (.cells #[.int .i64 W, .int .i64 S, .int .i64 B, .int .i64 T, .slice ad len cap] 24)).alloc (.cells #[.int .i64 2, .int .i64 a] 26)) w.heap.size W S B T ad len cap f) := (Ar.start hr.out).next hq
  have Q0' := Two5.new (w.alloc (.cells #[.int .i64 W, .int .i64 S, .int .i64 B, .int .i64 T, .slice ad len cap] 24)) 26 2 a
  rw [show (w.alloc (.cells #[.int .i64 W, .int .i64 S, .int .i64 B, .int .i64 T, .slice ad len cap] 24)).heap.size = w.heap.size + 1 from by simp] at Q0'
  have Q0 := Lib.hid Q0'
  clear hq Q0'
  go_enter Try.func3, Try.ntmps3
  go_wp2_with fail
  generalize (w.alloc (.cells #[.int .i64 W, .int .i64 S, .int .i64 B, .int .i64 T, .slice ad len cap] 24)).alloc (.cells #[.int .i64 2, .int .i64 a] 26) = w0 at *
  generalize hN : w.heap.size = N at *
  refine (speaks14 _).mono ?_
  rintro e w1 ⟨rfl, hb⟩
  have K1 := Lib.hid (K0.out.next hb)
  have Q1 := Lib.hid (Q0.out.next hb)
  clear hb K0 Q0
  obtain ⟨c0, c1, c2, c3, c4⟩ := cfg_cells K1.out.c
  obtain ⟨Qa, Qb⟩ := Q1.out.cells
  go_wp2_with fail
  refine (rmay_any W S B T ad len cap f _ K1.out.r hl).mono ?_
  rintro e w2 ⟨he, hb⟩
  obtain rfl : e = .returned (.bool true) := by rw [he, hm.out]
  clear he
  have K2 := Lib.hid (K1.out.next hb)
  have Q2 := Lib.hid (Q1.out.next hb)
  clear hb K1 Q1
  clear c0 c1 c2 c3 c4 Qa Qb
  obtain ⟨c0, c1, c2, c3, c4⟩ := cfg_cells K2.out.c
  obtain ⟨Qa, Qb⟩ := Q2.out.cells
  obtain ⟨⟨w1, w2⟩, ⟨s1, s2⟩, ⟨b1, b2⟩, ⟨t1, t2⟩, ⟨l1, l2⟩, hcls⟩ := may_nums hm.out
  clear hcls w1 w2 b1 b2 t1 t2
  go_wp2_with fail
  refine (check_out2 W S B T ad len cap a _ (by omega) (by omega) h).mono ?_
  rintro e w3 ⟨rfl, hb⟩
  have K3 := Lib.hid (K2.out.next hb)
  have Q3 := Lib.hid (Q2.out.next hb)
  clear hb K2 Q2
  clear c0 c1 c2 c3 c4 Qa Qb
  obtain ⟨c0, c1, c2, c3, c4⟩ := cfg_cells K3.out.c
  obtain ⟨Qa, Qb⟩ := Q3.out.cells
  have hba := below_alloc w3 (.cells #[.int .i64 0, .int .i64 0] 30)
  have X4 := Lib.hid (Two5.new w3 30 0 0)
  have K4 := Lib.hid (K3.out.next hba)
  have lN3 := K3.out.lt
  have lM3 : ¬ N = w3.heap.size := by omega
  have Q4 := Lib.hid (Q3.out.next hba)
  have lQ3 := Q3.out.lt
  clear hba
  go_upto_region 6 with fail
  generalize w3.alloc (.cells #[.int .i64 0, .int .i64 0] 30) = w4 at *
  generalize hM3 : w3.heap.size = MX at *
  clear K3 lN3 lM3 hM3 Q3 lQ3
  clear c0 c1 c2 c3 c4 Qa Qb
  obtain ⟨c0, c1, c2, c3, c4⟩ := cfg_cells K4.out.c
  obtain ⟨Qa, Qb⟩ := Q4.out.cells
  obtain ⟨Xa, Xb⟩ := X4.out.cells
  go_cut [7] (fun u7 wx => wx = w4 ∧ u7 = .bool (grB S a))
  case first =>
    have hs : IntKind.i64.wrap (1024 * S) = 1024 * S := by rw [IntKind.wrap_i64]; omega
    have hs2 : IntKind.i64.wrap (65536 + 1024 * S) = 65536 + 1024 * S := by rw [IntKind.wrap_i64]; omega
    have HG : Hid (grB S a = (decide (65536 ≤ a) && decide (a < 65536 + 1024 * S) && decide (a % 16 = 0))) := rfl
    generalize grB S a = GB at *
    by_cases g0 : 65536 ≤ a
    · have e0 : decide (65536 ≤ a) = true := by simpa using g0
      by_cases g1 : a < 65536 + 1024 * S
      · have e1 : decide (a < 65536 + 1024 * S) = true := by simpa using g1
        have e2 : (a % 16 == 0) = decide (a % 16 = 0) := rfl
        go_wp2_with fail
        all_goals (go_meet; case rel => exact ⟨rfl, by rw [HG.out]; simp [*]⟩)
      · have e1 : decide (a < 65536 + 1024 * S) = false := by simpa using g1
        go_wp2_with fail
        all_goals (go_meet; case rel => exact ⟨rfl, by rw [HG.out]; simp [*]⟩)
    · have e0 : decide (65536 ≤ a) = false := by simpa using g0
      go_wp2_with fail
      all_goals (go_meet; case rel => exact ⟨rfl, by rw [HG.out]; simp [*]⟩)
  case rest =>
    obtain ⟨rfl, rfl⟩ := hcut
    have hgb : Hid (grB S a = false) := by show _ = _; unfold grB; have := h.out; simp only [Bool.and_eq_false_iff, decide_eq_false_iff_not]; omega
    rw [hgb.out]
    go_wp2_with fail
    go_ret
    exact ⟨rfl, by first | exact K4.out.b | (rw [hN]; exact K4.out.b)⟩
set_option maxRecDepth 20000 in
set_option maxHeartbeats 4000000 in
theorem checks14_grain3 (W S B T : Int) (ad : Option Addr) (len cap : Nat) (f : Nat → Int) (a : Int) (w : World) (hr : Hid (RowI w ad len f)) (hl : len < 9223372036854775808) (h0 : 65536 ≤ a) (h1 : a < 65536 + 1024 * S) (h2 : Hid (a % 16 = 0)) (hm : Hid (mayB W S B T len f = true)) :
    Calls Try.prog 3 #[.agg #[.int .i64 W, .int .i64 S, .int .i64 B, .int .i64 T, .slice ad len cap], .agg #[.int .i64 3, .int .i64 a]] w fun e w' => e = .returned (.bool true) ∧ Below w.heap.size w w' := by
  have hq := below_alloc (w.alloc (.cells #[.int .i64 W, .int .i64 S, .int .i64 B, .int .i64 T, .slice ad len cap] 24)) (.cells #[.int .i64 3, .int .i64 a] 26)
  have K0 : Hid (Ar w ((w.alloc (.cells #[.int .i64 W, .int .i64 S, .int .i64 B, .int .i64 T, .slice ad len cap] 24)).alloc (.cells #[.int .i64 3, .int .i64 a] 26)) w.heap.size W S B T ad len cap f) := (Ar.start hr.out).next hq
  have Q0' := Two5.new (w.alloc (.cells #[.int .i64 W, .int .i64 S, .int .i64 B, .int .i64 T, .slice ad len cap] 24)) 26 3 a
  rw [show (w.alloc (.cells #[.int .i64 W, .int .i64 S, .int .i64 B, .int .i64 T, .slice ad len cap] 24)).heap.size = w.heap.size + 1 from by simp] at Q0'
  have Q0 := Lib.hid Q0'
  clear hq Q0'
  go_enter Try.func3, Try.ntmps3
  go_wp2_with fail
  generalize (w.alloc (.cells #[.int .i64 W, .int .i64 S, .int .i64 B, .int .i64 T, .slice ad len cap] 24)).alloc (.cells #[.int .i64 3, .int .i64 a] 26) = w0 at *
  generalize hN : w.heap.size = N at *
  refine (speaks14 _).mono ?_
  rintro e w1 ⟨rfl, hb⟩
  have K1 := Lib.hid (K0.out.next hb)
  have Q1 := Lib.hid (Q0.out.next hb)
  clear hb K0 Q0
  obtain ⟨c0, c1, c2, c3, c4⟩ := cfg_cells K1.out.c
  obtain ⟨Qa, Qb⟩ := Q1.out.cells
  go_wp2_with fail
  refine (rmay_any W S B T ad len cap f _ K1.out.r hl).mono ?_
  rintro e w2 ⟨he, hb⟩
  obtain rfl : e = .returned (.bool true) := by rw [he, hm.out]
  clear he
  have K2 := Lib.hid (K1.out.next hb)
  have Q2 := Lib.hid (Q1.out.next hb)
  clear hb K1 Q1
  clear c0 c1 c2 c3 c4 Qa Qb
  obtain ⟨c0, c1, c2, c3, c4⟩ := cfg_cells K2.out.c
  obtain ⟨Qa, Qb⟩ := Q2.out.cells
  obtain ⟨⟨w1, w2⟩, ⟨s1, s2⟩, ⟨b1, b2⟩, ⟨t1, t2⟩, ⟨l1, l2⟩, hcls⟩ := may_nums hm.out
  clear hcls w1 w2 b1 b2 t1 t2
  go_wp2_with fail
  refine (check_grain3 W S B T ad len cap a _ (by omega) (by omega) h0 h1 h2).mono ?_
  rintro e w3 ⟨rfl, hb⟩
  have K3 := Lib.hid (K2.out.next hb)
  have Q3 := Lib.hid (Q2.out.next hb)
  clear hb K2 Q2
  clear c0 c1 c2 c3 c4 Qa Qb
  obtain ⟨c0, c1, c2, c3, c4⟩ := cfg_cells K3.out.c
  obtain ⟨Qa, Qb⟩ := Q3.out.cells
  have hba := below_alloc w3 (.cells #[.int .i64 0, .int .i64 0] 30)
  have X4 := Lib.hid (Two5.new w3 30 0 0)
  have K4 := Lib.hid (K3.out.next hba)
  have lN3 := K3.out.lt
  have lM3 : ¬ N = w3.heap.size := by omega
  have Q4 := Lib.hid (Q3.out.next hba)
  have lQ3 := Q3.out.lt
  clear hba
  go_upto_region 6 with fail
  generalize w3.alloc (.cells #[.int .i64 0, .int .i64 0] 30) = w4 at *
  generalize hM3 : w3.heap.size = MX at *
  clear K3 lN3 lM3 hM3 Q3 lQ3
  clear c0 c1 c2 c3 c4 Qa Qb
  obtain ⟨c0, c1, c2, c3, c4⟩ := cfg_cells K4.out.c
  obtain ⟨Qa, Qb⟩ := Q4.out.cells
  obtain ⟨Xa, Xb⟩ := X4.out.cells
  go_cut [7] (fun u7 wx => wx = w4 ∧ u7 = .bool (grB S a))
  case first =>
    have hs : IntKind.i64.wrap (1024 * S) = 1024 * S := by rw [IntKind.wrap_i64]; omega
    have hs2 : IntKind.i64.wrap (65536 + 1024 * S) = 65536 + 1024 * S := by rw [IntKind.wrap_i64]; omega
    have HG : Hid (grB S a = (decide (65536 ≤ a) && decide (a < 65536 + 1024 * S) && decide (a % 16 = 0))) := rfl
    generalize grB S a = GB at *
    by_cases g0 : 65536 ≤ a
    · have e0 : decide (65536 ≤ a) = true := by simpa using g0
      by_cases g1 : a < 65536 + 1024 * S
      · have e1 : decide (a < 65536 + 1024 * S) = true := by simpa using g1
        have e2 : (a % 16 == 0) = decide (a % 16 = 0) := rfl
        go_wp2_with fail
        all_goals (go_meet; case rel => exact ⟨rfl, by rw [HG.out]; simp [*]⟩)
      · exact absurd h1 g1
    · exact absurd h0 g0
  case rest =>
    obtain ⟨rfl, rfl⟩ := hcut
    have hgb : Hid (grB S a = true) := by show _ = _; unfold grB; have := h2.out; simp; omega
    rw [hgb.out]
    go_wp2_with fail
    go_ret
    exact ⟨rfl, by first | exact K4.out.b | (rw [hN]; exact K4.out.b)⟩
set_option maxRecDepth 20000 in
set_option maxHeartbeats 4000000 in
theorem checks14_out3 (W S B T : Int) (ad : Option Addr) (len cap : Nat) (f : Nat → Int) (a : Int) (w : World) (hr : Hid (RowI w ad len f)) (hl : len < 9223372036854775808) (h : Hid (a < 65536 ∨ 65536 + 1024 * S ≤ a ∨ a % 16 ≠ 0)) (hm : Hid (mayB W S B T len f = true)) :
    Calls Try.prog 3 #[.agg #[.int .i64 W, .int .i64 S, .int .i64 B, .int .i64 T, .slice ad len cap], .agg #[.int .i64 3, .int .i64 a]] w fun e w' => e = .returned (.bool true) ∧ Below w.heap.size w w' := by
  have hq := below_alloc (w.alloc (.cells #[.int .i64 W, .int .i64 S, .int .i64 B, .int .i64 T, .slice ad len cap] 24)) (.cells #[.int .i64 3, .int .i64 a] 26)
  have K0 : Hid (Ar w ((w.alloc (.cells #[.int .i64 W, .int .i64 S, .int .i64 B, .int .i64 T, .slice ad len cap] 24)).alloc (.cells #[.int .i64 3, .int .i64 a] 26)) w.heap.size W S B T ad len cap f) := (Ar.start hr.out).next hq
  have Q0' := Two5.new (w.alloc (.cells #[.int .i64 W, .int .i64 S, .int .i64 B, .int .i64 T, .slice ad len cap] 24)) 26 3 a
  rw [show (w.alloc (.cells #[.int .i64 W, .int .i64 S, .int .i64 B, .int .i64 T, .slice ad len cap] 24)).heap.size = w.heap.size + 1 from by simp] at Q0'
  have Q0 := Lib.hid Q0'
  clear hq Q0'
  go_enter Try.func3, Try.ntmps3
  go_wp2_with fail
  generalize (w.alloc (.cells #[.int .i64 W, .int .i64 S, .int .i64 B, .int .i64 T, .slice ad len cap] 24)).alloc (.cells #[.int .i64 3, .int .i64 a] 26) = w0 at *
  generalize hN : w.heap.size = N at *
  refine (speaks14 _).mono ?_
  rintro e w1 ⟨rfl, hb⟩
  have K1 := Lib.hid (K0.out.next hb)
  have Q1 := Lib.hid (Q0.out.next hb)
  clear hb K0 Q0
  obtain ⟨c0, c1, c2, c3, c4⟩ := cfg_cells K1.out.c
  obtain ⟨Qa, Qb⟩ := Q1.out.cells
  go_wp2_with fail
  refine (rmay_any W S B T ad len cap f _ K1.out.r hl).mono ?_
  rintro e w2 ⟨he, hb⟩
  obtain rfl : e = .returned (.bool true) := by rw [he, hm.out]
  clear he
  have K2 := Lib.hid (K1.out.next hb)
  have Q2 := Lib.hid (Q1.out.next hb)
  clear hb K1 Q1
  clear c0 c1 c2 c3 c4 Qa Qb
  obtain ⟨c0, c1, c2, c3, c4⟩ := cfg_cells K2.out.c
  obtain ⟨Qa, Qb⟩ := Q2.out.cells
  obtain ⟨⟨w1, w2⟩, ⟨s1, s2⟩, ⟨b1, b2⟩, ⟨t1, t2⟩, ⟨l1, l2⟩, hcls⟩ := may_nums hm.out
  clear hcls w1 w2 b1 b2 t1 t2
  go_wp2_with fail
  refine (check_out3 W S B T ad len cap a _ (by omega) (by omega) h).mono ?_
  rintro e w3 ⟨rfl, hb⟩
  have K3 := Lib.hid (K2.out.next hb)
  have Q3 := Lib.hid (Q2.out.next hb)
  clear hb K2 Q2
  clear c0 c1 c2 c3 c4 Qa Qb
  obtain ⟨c0, c1, c2, c3, c4⟩ := cfg_cells K3.out.c
  obtain ⟨Qa, Qb⟩ := Q3.out.cells
  have hba := below_alloc w3 (.cells #[.int .i64 0, .int .i64 0] 30)
  have X4 := Lib.hid (Two5.new w3 30 0 0)
  have K4 := Lib.hid (K3.out.next hba)
  have lN3 := K3.out.lt
  have lM3 : ¬ N = w3.heap.size := by omega
  have Q4 := Lib.hid (Q3.out.next hba)
  have lQ3 := Q3.out.lt
  clear hba
  go_upto_region 6 with fail
  generalize w3.alloc (.cells #[.int .i64 0, .int .i64 0] 30) = w4 at *
  generalize hM3 : w3.heap.size = MX at *
  clear K3 lN3 lM3 hM3 Q3 lQ3
  clear c0 c1 c2 c3 c4 Qa Qb
  obtain ⟨c0, c1, c2, c3, c4⟩ := cfg_cells K4.out.c
  obtain ⟨Qa, Qb⟩ := Q4.out.cells
  obtain ⟨Xa, Xb⟩ := X4.out.cells
  go_cut [7] (fun u7 wx => wx = w4 ∧ u7 = .bool (grB S a))
  case first =>
    have hs : IntKind.i64.wrap (1024 * S) = 1024 * S := by rw [IntKind.wrap_i64]; omega
    have hs2 : IntKind.i64.wrap (65536 + 1024 * S) = 65536 + 1024 * S := by rw [IntKind.wrap_i64]; omega
    have HG : Hid (grB S a = (decide (65536 ≤ a) && decide (a < 65536 + 1024 * S) && decide (a % 16 = 0))) := rfl
    generalize grB S a = GB at *
    by_cases g0 : 65536 ≤ a
    · have e0 : decide (65536 ≤ a) = true := by simpa using g0
      by_cases g1 : a < 65536 + 1024 * S
      · have e1 : decide (a < 65536 + 1024 * S) = true := by simpa using g1
        have e2 : (a % 16 == 0) = decide (a % 16 = 0) := rfl
        go_wp2_with fail
        all_goals (go_meet; case rel => exact ⟨rfl, by rw [HG.out]; simp [*]⟩)
      · have e1 : decide (a < 65536 + 1024 * S) = false := by simpa using g1
        go_wp2_with fail
        all_goals (go_meet; case rel => exact ⟨rfl, by rw [HG.out]; simp [*]⟩)
    · have e0 : decide (65536 ≤ a) = false := by simpa using g0
      go_wp2_with fail
      all_goals (go_meet; case rel => exact ⟨rfl, by rw [HG.out]; simp [*]⟩)
  case rest =>
    obtain ⟨rfl, rfl⟩ := hcut
    have hgb : Hid (grB S a = false) := by show _ = _; unfold grB; have := h.out; simp only [Bool.and_eq_false_iff, decide_eq_false_iff_not]; omega
    rw [hgb.out]
    go_wp2_with fail
    go_ret
    exact ⟨rfl, by first | exact K4.out.b | (rw [hN]; exact K4.out.b)⟩
set_option maxRecDepth 20000 in
set_option maxHeartbeats 4000000 in
theorem checks14_odd (W S B T : Int) (ad : Option Addr) (len cap : Nat) (f : Nat → Int) (kd a : Int) (w : World) (hr : Hid (RowI w ad len f)) (hl : len < 9223372036854775808) (h1 : kd ≠ 1) (h2 : kd ≠ 2) (h3 : kd ≠ 3) (hm : Hid (mayB W S B T len f = true)) :
    Calls Try.prog 3 #[.agg #[.int .i64 W, .int .i64 S, .int .i64 B, .int .i64 T, .slice ad len cap], .agg #[.int .i64 kd, .int .i64 a]] w fun e w' => e = .returned (.bool true) ∧ Below w.heap.size w w' := by
  have hq := below_alloc (w.alloc (.cells #[.int .i64 W, .int .i64 S, .int .i64 B, .int .i64 T, .slice ad len cap] 24)) (.cells #[.int .i64 kd, .int .i64 a] 26)
  have K0 : Hid (Ar w ((w.alloc (.cells #[.int .i64 W, .int .i64 S, .int .i64 B, .int .i64 T, .slice ad len cap] 24)).alloc (.cells #[.int .i64 kd, .int .i64 a] 26)) w.heap.size W S B T ad len cap f) := (Ar.start hr.out).next hq
  have Q0' := Two5.new (w.alloc (.cells #[.int .i64 W, .int .i64 S, .int .i64 B, .int .i64 T, .slice ad len cap] 24)) 26 kd a
  rw [show (w.alloc (.cells #[.int .i64 W, .int .i64 S, .int .i64 B, .int .i64 T, .slice ad len cap] 24)).heap.size = w.heap.size + 1 from by simp] at Q0'
  have Q0 := Lib.hid Q0'
  clear hq Q0'
  go_enter Try.func3, Try.ntmps3
  go_wp2_with fail
  generalize (w.alloc (.cells #[.int .i64 W, .int .i64 S, .int .i64 B, .int .i64 T, .slice ad len cap] 24)).alloc (.cells #[.int .i64 kd, .int .i64 a] 26) = w0 at *
  generalize hN : w.heap.size = N at *
  refine (speaks14 _).mono ?_
  rintro e w1 ⟨rfl, hb⟩
  have K1 := Lib.hid (K0.out.next hb)
  have Q1 := Lib.hid (Q0.out.next hb)
  clear hb K0 Q0
  obtain ⟨c0, c1, c2, c3, c4⟩ := cfg_cells K1.out.c
  obtain ⟨Qa, Qb⟩ := Q1.out.cells
  go_wp2_with fail
  refine (rmay_any W S B T ad len cap f _ K1.out.r hl).mono ?_
  rintro e w2 ⟨he, hb⟩
  obtain rfl : e = .returned (.bool true) := by rw [he, hm.out]
  clear he
  have K2 := Lib.hid (K1.out.next hb)
  have Q2 := Lib.hid (Q1.out.next hb)
  clear hb K1 Q1
  clear c0 c1 c2 c3 c4 Qa Qb
  obtain ⟨c0, c1, c2, c3, c4⟩ := cfg_cells K2.out.c
  obtain ⟨Qa, Qb⟩ := Q2.out.cells
  obtain ⟨⟨w1, w2⟩, ⟨s1, s2⟩, ⟨b1, b2⟩, ⟨t1, t2⟩, ⟨l1, l2⟩, hcls⟩ := may_nums hm.out
  clear hcls w1 w2 b1 b2 t1 t2
  go_wp2_with fail
  refine (check_odd W S B T ad len cap kd a _ h1 h2 h3).mono ?_
  rintro e w3 ⟨rfl, hb⟩
  have K3 := Lib.hid (K2.out.next hb)
  have Q3 := Lib.hid (Q2.out.next hb)
  clear hb K2 Q2
  clear c0 c1 c2 c3 c4 Qa Qb
  obtain ⟨c0, c1, c2, c3, c4⟩ := cfg_cells K3.out.c
  obtain ⟨Qa, Qb⟩ := Q3.out.cells
  have hba := below_alloc w3 (.cells #[.int .i64 0, .int .i64 0] 30)
  have X4 := Lib.hid (Two5.new w3 30 0 0)
  have K4 := Lib.hid (K3.out.next hba)
  have lN3 := K3.out.lt
  have lM3 : ¬ N = w3.heap.size := by omega
  have Q4 := Lib.hid (Q3.out.next hba)
  have lQ3 := Q3.out.lt
  clear hba
  go_upto_region 6 with fail
  generalize w3.alloc (.cells #[.int .i64 0, .int .i64 0] 30) = w4 at *
  generalize hM3 : w3.heap.size = MX at *
  clear K3 lN3 lM3 hM3 Q3 lQ3
  clear c0 c1 c2 c3 c4 Qa Qb
  obtain ⟨c0, c1, c2, c3, c4⟩ := cfg_cells K4.out.c
  obtain ⟨Qa, Qb⟩ := Q4.out.cells
  obtain ⟨Xa, Xb⟩ := X4.out.cells
  go_cut [7] (fun u7 wx => wx = w4 ∧ u7 = .bool (grB S a))
  case first =>
    have hs : IntKind.i64.wrap (1024 * S) = 1024 * S := by rw [IntKind.wrap_i64]; omega
    have hs2 : IntKind.i64.wrap (65536 + 1024 * S) = 65536 + 1024 * S := by rw [IntKind.wrap_i64]; omega
    have HG : Hid (grB S a = (decide (65536 ≤ a) && decide (a < 65536 + 1024 * S) && decide (a % 16 = 0))) := rfl
    generalize grB S a = GB at *
    by_cases g0 : 65536 ≤ a
    · have e0 : decide (65536 ≤ a) = true := by simpa using g0
      by_cases g1 : a < 65536 + 1024 * S
      · have e1 : decide (a < 65536 + 1024 * S) = true := by simpa using g1
        have e2 : (a % 16 == 0) = decide (a % 16 = 0) := rfl
        go_wp2_with fail
        all_goals (go_meet; case rel => exact ⟨rfl, by rw [HG.out]; simp [*]⟩)
      · have e1 : decide (a < 65536 + 1024 * S) = false := by simpa using g1
        go_wp2_with fail
        all_goals (go_meet; case rel => exact ⟨rfl, by rw [HG.out]; simp [*]⟩)
    · have e0 : decide (65536 ≤ a) = false := by simpa using g0
      go_wp2_with fail
      all_goals (go_meet; case rel => exact ⟨rfl, by rw [HG.out]; simp [*]⟩)
  case rest =>
    obtain ⟨rfl, rfl⟩ := hcut
    generalize grB S a = GB at *
    have e1 : (kd == 1) = false := by simpa using h1
    have e2 : (kd == 2) = false := by simpa using h2
    have e3 : (kd == 3) = false := by simpa using h3
    go_wp2_with fail
    go_ret
    exact ⟨rfl, by first | exact K4.out.b | (rw [hN]; exact K4.out.b)⟩
theorem checks14_walk (W S B T : Int) (ad : Option Addr) (len cap : Nat) (f : Nat → Int) (kd a : Int) (w : World) (hr : RowI w ad len f) (hl : len < 9223372036854775808) :
    Calls Try.prog 3 #[.agg #[.int .i64 W, .int .i64 S, .int .i64 B, .int .i64 T, .slice ad len cap], .agg #[.int .i64 kd, .int .i64 a]] w fun e w' => e = .returned (.bool true) ∧ Below w.heap.size w w' := by
  have hr' := Lib.hid hr
  rcases h : mayB W S B T len f with _ | _
  · exact checks14_no W S B T ad len cap f kd a w hr' hl (Lib.hid h)
  · have hm := Lib.hid h
    have s0 := (may_nums h).2.1
    by_cases h1 : kd = 1
    · subst h1
      obtain ⟨x, y, e, th⟩ := th_ex S len f a
      cases th with
      | small h => exact checks14_none W S B T ad len cap f a w hr' hl (.small h) (Lib.hid fun w hr => rclass_no W S B T ad len cap f a w (Lib.hid hr) hl (.inl h)) (Lib.hid fun w hr => rrun_zero W S B T ad len cap f a 0 w (Lib.hid hr) hl (.inl h)) hm
      | cls i h hi h2 h3 => exact checks14_cls W S B T ad len cap f a i w hr' hl h hi h2 h3 hm
      | run _ h h3 h4 hq q1 q2 => exact checks14_run W S B T ad len cap f a y w hr' hl h h3 h4 hq q1 q2 hm
      | big h h3 h4 =>
        refine checks14_none W S B T ad len cap f a w hr' hl (.big h h3 h4) (Lib.hid fun w hr => rclass_no W S B T ad len cap f a w (Lib.hid hr) hl (.inr h3.out)) (Lib.hid fun w hr => ?_) hm
        have := rrun_no W S B T ad len cap f a w (Lib.hid hr) hl h h3 (by omega) (by omega)
        rw [show runI S a = 0 from by unfold runI; rw [if_pos h4]] at this
        exact this
    · by_cases g : 65536 ≤ a ∧ a < 65536 + 1024 * S ∧ a % 16 = 0
      · by_cases h2 : kd = 2
        · subst h2; exact checks14_grain2 W S B T ad len cap f a w hr' hl g.1 g.2.1 (Lib.hid g.2.2) hm
        · by_cases h3 : kd = 3
          · subst h3; exact checks14_grain3 W S B T ad len cap f a w hr' hl g.1 g.2.1 (Lib.hid g.2.2) hm
          · exact checks14_odd W S B T ad len cap f kd a w hr' hl h1 h2 h3 hm
      · have g' : a < 65536 ∨ 65536 + 1024 * S ≤ a ∨ a % 16 ≠ 0 := by omega
        by_cases h2 : kd = 2
        · subst h2; exact checks14_out2 W S B T ad len cap f a w hr' hl (Lib.hid g') hm
        · by_cases h3 : kd = 3
          · subst h3; exact checks14_out3 W S B T ad len cap f a w hr' hl (Lib.hid g') hm
          · exact checks14_odd W S B T ad len cap f kd a w hr' hl h1 h2 h3 hm
end Go.Proofs.Ytchkgmknhndccaa
