/-
  The walk of the statement ArenaSizes: of any size the class, or how many superblocks it takes, is the document's; it is one of both, or too great, or nothing.
-/
import Derived.Test.YtjlklkaaonfpdaaQuiet5
namespace Go.Proofs.Ytjlklkaaonfpdaa
open Go.RowKit Go.Sort

set_option maxHeartbeats 1000000 in
theorem sizes5_no (W S B T : Int) (ad : Option Addr) (len cap : Nat) (f : Nat → Int) (a : Int) (w : World) (hr : Hid (RowI w ad len f)) (hl : len < 9223372036854775808)  (hm : Hid (mayB W S B T len f = false)) :
    Calls Try.prog 3 #[.agg #[.int .i64 W, .int .i64 S, .int .i64 B, .int .i64 T, .slice ad len cap], .int .i64 a] w fun e w' => e = .returned (.bool true) ∧ Below w.heap.size w w' := by
  have K0 : Hid (Ar w (w.alloc (.cells #[.int .i64 W, .int .i64 S, .int .i64 B, .int .i64 T, .slice ad len cap] 24)) w.heap.size W S B T ad len cap f) := Ar.start hr.out
  go_enter Try.func3, Try.ntmps3
  go_wp2_with fail
  generalize w.alloc (.cells #[.int .i64 W, .int .i64 S, .int .i64 B, .int .i64 T, .slice ad len cap] 24) = w0 at *
  generalize hN : w.heap.size = N at *
  refine (speaks5 _).mono ?_
  rintro e wa ⟨rfl, hb⟩
  have K1 := Lib.hid (K0.out.next hb)
  clear hb K0
  obtain ⟨c0, c1, c2, c3, c4⟩ := cfg_cells K1.out.c
  go_wp2_with fail
  refine (rmay_any W S B T ad len cap f _ K1.out.r hl).mono ?_
  rintro e wb ⟨he, hb⟩
  obtain rfl : e = .returned (.bool false) := by rw [he, hm.out]
  have K2 := Lib.hid (K1.out.next hb)
  clear hb K1 c0 c1 c2 c3 c4 he
  go_wp2_with fail
  go_ret
  exact ⟨rfl, by first | exact K2.out.b | (rw [hN]; exact K2.out.b)⟩

set_option maxRecDepth 20000 in
set_option maxHeartbeats 4000000 in
theorem sizes5_small (W S B T : Int) (ad : Option Addr) (len cap : Nat) (f : Nat → Int) (a : Int) (w : World) (hr : Hid (RowI w ad len f)) (hl : len < 9223372036854775808) (h0 : a < 1) (hm : Hid (mayB W S B T len f = true)) :
    Calls Try.prog 3 #[.agg #[.int .i64 W, .int .i64 S, .int .i64 B, .int .i64 T, .slice ad len cap], .int .i64 a] w fun e w' => e = .returned (.bool true) ∧ Below w.heap.size w w' := by
  have K0 : Hid (Ar w (w.alloc (.cells #[.int .i64 W, .int .i64 S, .int .i64 B, .int .i64 T, .slice ad len cap] 24)) w.heap.size W S B T ad len cap f) := Ar.start hr.out
  go_enter Try.func3, Try.ntmps3
  go_wp2_with fail
  generalize w.alloc (.cells #[.int .i64 W, .int .i64 S, .int .i64 B, .int .i64 T, .slice ad len cap] 24) = w0 at *
  generalize hN : w.heap.size = N at *
  refine (speaks5 _).mono ?_
  rintro e wa ⟨rfl, hb⟩
  have K1 := Lib.hid (K0.out.next hb)
  clear hb K0
  obtain ⟨c0, c1, c2, c3, c4⟩ := cfg_cells K1.out.c
  go_wp2_with fail
  refine (rmay_any W S B T ad len cap f _ K1.out.r hl).mono ?_
  rintro e wb ⟨he, hb⟩
  obtain rfl : e = .returned (.bool true) := by rw [he, hm.out]
  have K2 := Lib.hid (K1.out.next hb)
  clear hb K1 c0 c1 c2 c3 c4 he
  obtain ⟨⟨w1, w2⟩, ⟨s1, s2⟩, ⟨b1, b2⟩, ⟨t1, t2⟩, ⟨l1, l2⟩, hcls⟩ := may_nums hm.out
  have OK := Lib.hid (cls_ok hcls)
  clear hcls w1 w2 b1 b2 t1 t2
  obtain ⟨c0, c1, c2, c3, c4⟩ := cfg_cells K2.out.c
  have d0 : decide (a < 1) = true := by simpa using h0
  have d1 : decide (1 ≤ a) = false := by simp; omega
  have hs : IntKind.i64.wrap (1024 * S) = 1024 * S := by rw [IntKind.wrap_i64]; omega
  go_wp2_with fail
  refine (class_small W S B T _ a _ h0).mono ?_
  rintro e wc ⟨rfl, hb⟩
  have K3 := Lib.hid (K2.out.next hb)
  clear hb K2 c0 c1 c2 c3 c4
  obtain ⟨c0, c1, c2, c3, c4⟩ := cfg_cells K3.out.c
  go_wp2_with fail
  refine (rclass_no W S B T ad len cap f a _ K3.out.r hl (.inl h0)).mono ?_
  rintro e wd ⟨rfl, hb⟩
  have K4 := Lib.hid (K3.out.next hb)
  clear hb K3 c0 c1 c2 c3 c4
  obtain ⟨c0, c1, c2, c3, c4⟩ := cfg_cells K4.out.c
  go_wp2_with fail
  clear c0 c1 c2 c3 c4
  obtain ⟨c0, c1, c2, c3, c4⟩ := cfg_cells K4.out.c
  have k0 := cell_regrown c0
  have k1 := cell_regrown c1
  have k2 := cell_regrown c2
  have k3 := cell_regrown c3
  have k4 := cell_regrown c4
  clear c0 c1 c2 c3 c4
  have cA := fun d os => Calls.regrown_of (run_small W S B T ad len cap a (grow (redrawn wd d) os) h0)
  have cB := fun d os => Calls.regrown_of (rrun_zero W S B T ad len cap f a 0 (grow (redrawn wd d) os) (K4.out.grown d os).r hl (.inl h0))
  refine wp_region_quiet_below (by kernel_rfl) (by kernel_rfl) ?_
  repeat (go_big_quiet_step (first | exact cA _ _ | exact cB _ _))
  refine wpQuiet_nil ?_
  intro _ hw'
  obtain ⟨⟨dq, osq⟩, hw''⟩ := hw'
  subst hw''
  have K5 := Lib.hid (K4.out.grown dq osq)
  generalize Sort.grow (redrawn wd dq) osq = we at *
  clear k0 k1 k2 k3 k4 cA cB K4
  obtain ⟨c0, c1, c2, c3, c4⟩ := cfg_cells K5.out.c
  go_wp2_with fail
  have K6 := K5
  clear K5 c0 c1 c2 c3 c4
  obtain ⟨c0, c1, c2, c3, c4⟩ := cfg_cells K6.out.c
  have k0 := cell_regrown c0
  have k1 := cell_regrown c1
  have k2 := cell_regrown c2
  have k3 := cell_regrown c3
  have k4 := cell_regrown c4
  clear c0 c1 c2 c3 c4
  have cM := fun d os => Calls.regrown_of (most_any W S B T (.slice ad len cap) (grow (redrawn we d) os) (by omega) (by omega))
  have cA := fun d os => Calls.regrown_of (run_small W S B T ad len cap a (grow (redrawn we d) os) h0)
  refine wp_region_quiet_below (by kernel_rfl) (by kernel_rfl) ?_
  repeat (go_big_quiet_step (first | exact cM _ _ | exact cA _ _))
  refine wpQuiet_nil ?_
  intro _ hw'
  obtain ⟨⟨dq, osq⟩, hw''⟩ := hw'
  subst hw''
  have K9 := Lib.hid (K6.out.grown dq osq)
  generalize Sort.grow (redrawn we dq) osq = wg at *
  clear k0 k1 k2 k3 k4 cM cA K6
  go_wp2_with fail
  go_ret
  exact ⟨rfl, by first | exact K9.out.b | (rw [hN]; exact K9.out.b)⟩

set_option maxRecDepth 20000 in
set_option maxHeartbeats 4000000 in
theorem sizes5_has (W S B T : Int) (ad : Option Addr) (len cap : Nat) (f : Nat → Int) (a : Int) (i : Nat) (w : World) (hr : Hid (RowI w ad len f)) (hl : len < 9223372036854775808) (h1 : 1 ≤ a) (hi : i < len) (h2 : Hid (a ≤ f i)) (h3 : Hid (∀ j, j < i → f j < a)) (hm : Hid (mayB W S B T len f = true)) :
    Calls Try.prog 3 #[.agg #[.int .i64 W, .int .i64 S, .int .i64 B, .int .i64 T, .slice ad len cap], .int .i64 a] w fun e w' => e = .returned (.bool true) ∧ Below w.heap.size w w' := by
  have K0 : Hid (Ar w (w.alloc (.cells #[.int .i64 W, .int .i64 S, .int .i64 B, .int .i64 T, .slice ad len cap] 24)) w.heap.size W S B T ad len cap f) := Ar.start hr.out
  go_enter Try.func3, Try.ntmps3
  go_wp2_with fail
  generalize w.alloc (.cells #[.int .i64 W, .int .i64 S, .int .i64 B, .int .i64 T, .slice ad len cap] 24) = w0 at *
  generalize hN : w.heap.size = N at *
  refine (speaks5 _).mono ?_
  rintro e wa ⟨rfl, hb⟩
  have K1 := Lib.hid (K0.out.next hb)
  clear hb K0
  obtain ⟨c0, c1, c2, c3, c4⟩ := cfg_cells K1.out.c
  go_wp2_with fail
  refine (rmay_any W S B T ad len cap f _ K1.out.r hl).mono ?_
  rintro e wb ⟨he, hb⟩
  obtain rfl : e = .returned (.bool true) := by rw [he, hm.out]
  have K2 := Lib.hid (K1.out.next hb)
  clear hb K1 c0 c1 c2 c3 c4 he
  obtain ⟨⟨w1, w2⟩, ⟨s1, s2⟩, ⟨b1, b2⟩, ⟨t1, t2⟩, ⟨l1, l2⟩, hcls⟩ := may_nums hm.out
  have OK := Lib.hid (cls_ok hcls)
  clear hcls w1 w2 b1 b2 t1 t2
  obtain ⟨c0, c1, c2, c3, c4⟩ := cfg_cells K2.out.c
  have d0 : decide (a < 1) = false := by simp; omega
  have d1 : decide (1 ≤ a) = true := by simpa using h1
  have hs : IntKind.i64.wrap (1024 * S) = 1024 * S := by rw [IntKind.wrap_i64]; omega
  have z1 := OK.out.hi i hi
  have z2 := h2.out
  have d2 : decide (a ≤ 1024 * S) = true := by simp; omega
  have x1 : (i : Int) < (len : Int) := by omega
  have HG : Hid (∀ j, i ≤ j → j < len → a ≤ f j) := fun j h4 h5 => by
    by_cases e : i = j
    · subst e; exact h2.out
    · have := OK.out.up i j (by omega) h5; have := h2.out; omega
  obtain ⟨b, off, hb0, hc0⟩ := K2.out.r.at hi
  subst hb0
  clear hc0
  go_wp2_with fail
  refine (class_yes W S B T _ len cap f a i _ K2.out.r hl h1 hi h2.out h3).mono ?_
  rintro e wc ⟨rfl, hb⟩
  have K3 := Lib.hid (K2.out.next hb)
  clear hb K2 c0 c1 c2 c3 c4
  obtain ⟨c0, c1, c2, c3, c4⟩ := cfg_cells K3.out.c
  go_wp2_with fail
  refine (rclass_yes W S B T _ len cap f a i _ K3.out.r hl h1 hi HG h3).mono ?_
  rintro e wd ⟨rfl, hb⟩
  have K4 := Lib.hid (K3.out.next hb)
  clear hb K3 c0 c1 c2 c3 c4
  obtain ⟨c0, c1, c2, c3, c4⟩ := cfg_cells K4.out.c
  go_wp2_with fail
  clear c0 c1 c2 c3 c4
  obtain ⟨c0, c1, c2, c3, c4⟩ := cfg_cells K4.out.c
  have k0 := cell_regrown c0
  have k1 := cell_regrown c1
  have k2 := cell_regrown c2
  have k3 := cell_regrown c3
  have k4 := cell_regrown c4
  clear c0 c1 c2 c3 c4
  have cA := fun d os => Calls.regrown_of (run_has W S B T _ len cap f a i (grow (redrawn wd d) os) (K4.out.grown d os).r hl h1 hi h2.out h3)
  have cB := fun d os => Calls.regrown_of (rrun_zero W S B T _ len cap f a i (grow (redrawn wd d) os) (K4.out.grown d os).r hl (.inr ⟨hi, HG, h3⟩))
  refine wp_region_quiet_below (by kernel_rfl) (by kernel_rfl) ?_
  repeat (go_big_quiet_step (first | exact cA _ _ | exact cB _ _))
  refine wpQuiet_nil ?_
  intro _ hw'
  obtain ⟨⟨dq, osq⟩, hw''⟩ := hw'
  subst hw''
  have K5 := Lib.hid (K4.out.grown dq osq)
  generalize Sort.grow (redrawn wd dq) osq = we at *
  clear k0 k1 k2 k3 k4 cA cB K4
  obtain ⟨c0, c1, c2, c3, c4⟩ := cfg_cells K5.out.c
  go_wp2_with fail
  refine (most_any W S B T _ _ (by omega) (by omega)).mono ?_
  rintro e wf ⟨rfl, hb⟩
  have K6 := Lib.hid (K5.out.next hb)
  clear hb K5 c0 c1 c2 c3 c4
  obtain ⟨c0, c1, c2, c3, c4⟩ := cfg_cells K6.out.c
  go_wp2_with fail
  clear c0 c1 c2 c3 c4
  obtain ⟨b', off', hb', hc'⟩ := K6.out.r.at hi
  obtain ⟨rfl, rfl⟩ : b = b' ∧ off = off' := by simp at hb'; exact hb'
  clear hb'
  have hcr := cell_regrown hc'
  clear hc'
  have d3 : decide (a ≤ f i) = true := by simpa using z2
  obtain ⟨c0, c1, c2, c3, c4⟩ := cfg_cells K6.out.c
  have k0 := cell_regrown c0
  have k1 := cell_regrown c1
  have k2 := cell_regrown c2
  have k3 := cell_regrown c3
  have k4 := cell_regrown c4
  clear c0 c1 c2 c3 c4
  have cM := fun d os => Calls.regrown_of (most_any W S B T (.slice (some ⟨b, off, none⟩) len cap) (grow (redrawn wf d) os) (by omega) (by omega))
  have cA := fun d os => Calls.regrown_of (run_has W S B T _ len cap f a i (grow (redrawn wf d) os) (K6.out.grown d os).r hl h1 hi h2.out h3)
  refine wp_region_quiet_below (by kernel_rfl) (by kernel_rfl) ?_
  repeat (go_big_quiet_step (first | exact cM _ _ | exact cA _ _))
  refine wpQuiet_nil ?_
  intro _ hw'
  obtain ⟨⟨dq, osq⟩, hw''⟩ := hw'
  subst hw''
  have K9 := Lib.hid (K6.out.grown dq osq)
  generalize Sort.grow (redrawn wf dq) osq = wg at *
  clear k0 k1 k2 k3 k4 cM cA K6
  go_wp2_with fail
  go_ret
  exact ⟨rfl, by first | exact K9.out.b | (rw [hN]; exact K9.out.b)⟩

set_option maxRecDepth 20000 in
set_option maxHeartbeats 4000000 in
theorem sizes5_fit (W S B T : Int) (ad : Option Addr) (len cap : Nat) (f : Nat → Int) (a : Int) (w : World) (hr : Hid (RowI w ad len f)) (hl : len < 9223372036854775808) (h1 : 1 ≤ a) (h3 : Hid (∀ j, j < len → f j < a)) (h4 : a ≤ 1024 * S) (hm : Hid (mayB W S B T len f = true)) :
    Calls Try.prog 3 #[.agg #[.int .i64 W, .int .i64 S, .int .i64 B, .int .i64 T, .slice ad len cap], .int .i64 a] w fun e w' => e = .returned (.bool true) ∧ Below w.heap.size w w' := by
  have K0 : Hid (Ar w (w.alloc (.cells #[.int .i64 W, .int .i64 S, .int .i64 B, .int .i64 T, .slice ad len cap] 24)) w.heap.size W S B T ad len cap f) := Ar.start hr.out
  go_enter Try.func3, Try.ntmps3
  go_wp2_with fail
  generalize w.alloc (.cells #[.int .i64 W, .int .i64 S, .int .i64 B, .int .i64 T, .slice ad len cap] 24) = w0 at *
  generalize hN : w.heap.size = N at *
  refine (speaks5 _).mono ?_
  rintro e wa ⟨rfl, hb⟩
  have K1 := Lib.hid (K0.out.next hb)
  clear hb K0
  obtain ⟨c0, c1, c2, c3, c4⟩ := cfg_cells K1.out.c
  go_wp2_with fail
  refine (rmay_any W S B T ad len cap f _ K1.out.r hl).mono ?_
  rintro e wb ⟨he, hb⟩
  obtain rfl : e = .returned (.bool true) := by rw [he, hm.out]
  have K2 := Lib.hid (K1.out.next hb)
  clear hb K1 c0 c1 c2 c3 c4 he
  obtain ⟨⟨w1, w2⟩, ⟨s1, s2⟩, ⟨b1, b2⟩, ⟨t1, t2⟩, ⟨l1, l2⟩, hcls⟩ := may_nums hm.out
  have OK := Lib.hid (cls_ok hcls)
  clear hcls w1 w2 b1 b2 t1 t2
  obtain ⟨c0, c1, c2, c3, c4⟩ := cfg_cells K2.out.c
  have d0 : decide (a < 1) = false := by simp; omega
  have d1 : decide (1 ≤ a) = true := by simpa using h1
  have hs : IntKind.i64.wrap (1024 * S) = 1024 * S := by rw [IntKind.wrap_i64]; omega
  have d2 : decide (a ≤ 1024 * S) = true := by simpa using h4
  have HQ : Hid (1 ≤ runI S a) := by show 1 ≤ runI S a; unfold runI; rw [if_neg (by omega)]; omega
  have RN := Lib.hid (fun w hr => run_no W S B T ad len cap f a w hr hl h1 h3 (by omega) (by omega))
  have RR := Lib.hid (fun w hr => rrun_no W S B T ad len cap f a w hr hl h1 h3 (by omega) (by omega))
  generalize runI S a = n at *
  have n0 := HQ.out
  have e1 : decide (0 < n) = true := by simp; omega
  go_wp2_with fail
  refine (class_no W S B T _ len cap f a _ K2.out.r hl h1 h3).mono ?_
  rintro e wc ⟨rfl, hb⟩
  have K3 := Lib.hid (K2.out.next hb)
  clear hb K2 c0 c1 c2 c3 c4
  obtain ⟨c0, c1, c2, c3, c4⟩ := cfg_cells K3.out.c
  go_wp2_with fail
  refine (rclass_no W S B T _ len cap f a _ K3.out.r hl (.inr h3.out)).mono ?_
  rintro e wd ⟨rfl, hb⟩
  have K4 := Lib.hid (K3.out.next hb)
  clear hb K3 c0 c1 c2 c3 c4
  obtain ⟨c0, c1, c2, c3, c4⟩ := cfg_cells K4.out.c
  go_wp2_with fail
  clear c0 c1 c2 c3 c4
  obtain ⟨c0, c1, c2, c3, c4⟩ := cfg_cells K4.out.c
  have k0 := cell_regrown c0
  have k1 := cell_regrown c1
  have k2 := cell_regrown c2
  have k3 := cell_regrown c3
  have k4 := cell_regrown c4
  clear c0 c1 c2 c3 c4
  have cA := fun d os => Calls.regrown_of (RN.out (grow (redrawn wd d) os) (K4.out.grown d os).r)
  have cB := fun d os => Calls.regrown_of (RR.out (grow (redrawn wd d) os) (K4.out.grown d os).r)
  refine wp_region_quiet_below (by kernel_rfl) (by kernel_rfl) ?_
  repeat (go_big_quiet_step (first | exact cA _ _ | exact cB _ _))
  refine wpQuiet_nil ?_
  intro _ hw'
  obtain ⟨⟨dq, osq⟩, hw''⟩ := hw'
  subst hw''
  have K5 := Lib.hid (K4.out.grown dq osq)
  generalize Sort.grow (redrawn wd dq) osq = we at *
  clear k0 k1 k2 k3 k4 cA cB K4
  obtain ⟨c0, c1, c2, c3, c4⟩ := cfg_cells K5.out.c
  go_wp2_with fail
  refine (most_any W S B T _ _ (by omega) (by omega)).mono ?_
  rintro e wf ⟨rfl, hb⟩
  have K6 := Lib.hid (K5.out.next hb)
  clear hb K5 c0 c1 c2 c3 c4
  obtain ⟨c0, c1, c2, c3, c4⟩ := cfg_cells K6.out.c
  go_wp2_with fail
  clear c0 c1 c2 c3 c4
  obtain ⟨c0, c1, c2, c3, c4⟩ := cfg_cells K6.out.c
  have k0 := cell_regrown c0
  have k1 := cell_regrown c1
  have k2 := cell_regrown c2
  have k3 := cell_regrown c3
  have k4 := cell_regrown c4
  clear c0 c1 c2 c3 c4
  have cM := fun d os => Calls.regrown_of (most_any W S B T (.slice ad len cap) (grow (redrawn wf d) os) (by omega) (by omega))
  have cA := fun d os => Calls.regrown_of (RN.out (grow (redrawn wf d) os) (K6.out.grown d os).r)
  refine wp_region_quiet_below (by kernel_rfl) (by kernel_rfl) ?_
  repeat (go_big_quiet_step (first | exact cM _ _ | exact cA _ _))
  refine wpQuiet_nil ?_
  intro _ hw'
  obtain ⟨⟨dq, osq⟩, hw''⟩ := hw'
  subst hw''
  have K9 := Lib.hid (K6.out.grown dq osq)
  generalize Sort.grow (redrawn wf dq) osq = wg at *
  clear k0 k1 k2 k3 k4 cM cA K6
  go_wp2_with fail
  go_ret
  exact ⟨rfl, by first | exact K9.out.b | (rw [hN]; exact K9.out.b)⟩

set_option maxRecDepth 20000 in
set_option maxHeartbeats 4000000 in
theorem sizes5_big (W S B T : Int) (ad : Option Addr) (len cap : Nat) (f : Nat → Int) (a : Int) (w : World) (hr : Hid (RowI w ad len f)) (hl : len < 9223372036854775808) (h1 : 1 ≤ a) (h3 : Hid (∀ j, j < len → f j < a)) (h4 : 1024 * S < a) (hm : Hid (mayB W S B T len f = true)) :
    Calls Try.prog 3 #[.agg #[.int .i64 W, .int .i64 S, .int .i64 B, .int .i64 T, .slice ad len cap], .int .i64 a] w fun e w' => e = .returned (.bool true) ∧ Below w.heap.size w w' := by
  have K0 : Hid (Ar w (w.alloc (.cells #[.int .i64 W, .int .i64 S, .int .i64 B, .int .i64 T, .slice ad len cap] 24)) w.heap.size W S B T ad len cap f) := Ar.start hr.out
  go_enter Try.func3, Try.ntmps3
  go_wp2_with fail
  generalize w.alloc (.cells #[.int .i64 W, .int .i64 S, .int .i64 B, .int .i64 T, .slice ad len cap] 24) = w0 at *
  generalize hN : w.heap.size = N at *
  refine (speaks5 _).mono ?_
  rintro e wa ⟨rfl, hb⟩
  have K1 := Lib.hid (K0.out.next hb)
  clear hb K0
  obtain ⟨c0, c1, c2, c3, c4⟩ := cfg_cells K1.out.c
  go_wp2_with fail
  refine (rmay_any W S B T ad len cap f _ K1.out.r hl).mono ?_
  rintro e wb ⟨he, hb⟩
  obtain rfl : e = .returned (.bool true) := by rw [he, hm.out]
  have K2 := Lib.hid (K1.out.next hb)
  clear hb K1 c0 c1 c2 c3 c4 he
  obtain ⟨⟨w1, w2⟩, ⟨s1, s2⟩, ⟨b1, b2⟩, ⟨t1, t2⟩, ⟨l1, l2⟩, hcls⟩ := may_nums hm.out
  have OK := Lib.hid (cls_ok hcls)
  clear hcls w1 w2 b1 b2 t1 t2
  obtain ⟨c0, c1, c2, c3, c4⟩ := cfg_cells K2.out.c
  have d0 : decide (a < 1) = false := by simp; omega
  have d1 : decide (1 ≤ a) = true := by simpa using h1
  have hs : IntKind.i64.wrap (1024 * S) = 1024 * S := by rw [IntKind.wrap_i64]; omega
  have d2 : decide (a ≤ 1024 * S) = false := by simp; omega
  have HQ : Hid (runI S a = 0) := by show runI S a = 0; unfold runI; rw [if_pos h4]
  have RN := Lib.hid (fun w hr => run_no W S B T ad len cap f a w hr hl h1 h3 (by omega) (by omega))
  have RR := Lib.hid (fun w hr => rrun_no W S B T ad len cap f a w hr hl h1 h3 (by omega) (by omega))
  generalize runI S a = n at *
  obtain rfl : n = 0 := HQ.out
  go_wp2_with fail
  refine (class_no W S B T _ len cap f a _ K2.out.r hl h1 h3).mono ?_
  rintro e wc ⟨rfl, hb⟩
  have K3 := Lib.hid (K2.out.next hb)
  clear hb K2 c0 c1 c2 c3 c4
  obtain ⟨c0, c1, c2, c3, c4⟩ := cfg_cells K3.out.c
  go_wp2_with fail
  refine (rclass_no W S B T _ len cap f a _ K3.out.r hl (.inr h3.out)).mono ?_
  rintro e wd ⟨rfl, hb⟩
  have K4 := Lib.hid (K3.out.next hb)
  clear hb K3 c0 c1 c2 c3 c4
  obtain ⟨c0, c1, c2, c3, c4⟩ := cfg_cells K4.out.c
  go_wp2_with fail
  clear c0 c1 c2 c3 c4
  obtain ⟨c0, c1, c2, c3, c4⟩ := cfg_cells K4.out.c
  have k0 := cell_regrown c0
  have k1 := cell_regrown c1
  have k2 := cell_regrown c2
  have k3 := cell_regrown c3
  have k4 := cell_regrown c4
  clear c0 c1 c2 c3 c4
  have cA := fun d os => Calls.regrown_of (RN.out (grow (redrawn wd d) os) (K4.out.grown d os).r)
  have cB := fun d os => Calls.regrown_of (RR.out (grow (redrawn wd d) os) (K4.out.grown d os).r)
  refine wp_region_quiet_below (by kernel_rfl) (by kernel_rfl) ?_
  repeat (go_big_quiet_step (first | exact cA _ _ | exact cB _ _))
  refine wpQuiet_nil ?_
  intro _ hw'
  obtain ⟨⟨dq, osq⟩, hw''⟩ := hw'
  subst hw''
  have K5 := Lib.hid (K4.out.grown dq osq)
  generalize Sort.grow (redrawn wd dq) osq = we at *
  clear k0 k1 k2 k3 k4 cA cB K4
  obtain ⟨c0, c1, c2, c3, c4⟩ := cfg_cells K5.out.c
  go_wp2_with fail
  refine (most_any W S B T _ _ (by omega) (by omega)).mono ?_
  rintro e wf ⟨rfl, hb⟩
  have K6 := Lib.hid (K5.out.next hb)
  clear hb K5 c0 c1 c2 c3 c4
  obtain ⟨c0, c1, c2, c3, c4⟩ := cfg_cells K6.out.c
  go_wp2_with fail
  clear c0 c1 c2 c3 c4
  obtain ⟨c0, c1, c2, c3, c4⟩ := cfg_cells K6.out.c
  have k0 := cell_regrown c0
  have k1 := cell_regrown c1
  have k2 := cell_regrown c2
  have k3 := cell_regrown c3
  have k4 := cell_regrown c4
  clear c0 c1 c2 c3 c4
  have cM := fun d os => Calls.regrown_of (most_any W S B T (.slice ad len cap) (grow (redrawn wf d) os) (by omega) (by omega))
  have cA := fun d os => Calls.regrown_of (RN.out (grow (redrawn wf d) os) (K6.out.grown d os).r)
  refine wp_region_quiet_below (by kernel_rfl) (by kernel_rfl) ?_
  repeat (go_big_quiet_step (first | exact cM _ _ | exact cA _ _))
  refine wpQuiet_nil ?_
  intro _ hw'
  obtain ⟨⟨dq, osq⟩, hw''⟩ := hw'
  subst hw''
  have K9 := Lib.hid (K6.out.grown dq osq)
  generalize Sort.grow (redrawn wf dq) osq = wg at *
  clear k0 k1 k2 k3 k4 cM cA K6
  go_wp2_with fail
  go_ret
  exact ⟨rfl, by first | exact K9.out.b | (rw [hN]; exact K9.out.b)⟩

theorem sizes5_walk (W S B T : Int) (ad : Option Addr) (len cap : Nat) (f : Nat → Int) (a : Int) (w : World) (hr : RowI w ad len f) (hl : len < 9223372036854775808) :
    Calls Try.prog 3 #[.agg #[.int .i64 W, .int .i64 S, .int .i64 B, .int .i64 T, .slice ad len cap], .int .i64 a] w fun e w' => e = .returned (.bool true) ∧ Below w.heap.size w w' := by
  rcases h : mayB W S B T len f with _ | _
  · exact sizes5_no W S B T ad len cap f a w hr hl h
  · by_cases h0 : a < 1
    · exact sizes5_small W S B T ad len cap f a w hr hl h0 h
    · rcases class_case f a len with hno | ⟨i, hi, h2, h3⟩
      · by_cases h4 : a ≤ 1024 * S
        · exact sizes5_fit W S B T ad len cap f a w hr hl (by omega) hno h4 h
        · exact sizes5_big W S B T ad len cap f a w hr hl (by omega) hno (by omega) h
      · exact sizes5_has W S B T ad len cap f a i w hr hl (by omega) hi h2 h3 h

end Go.Proofs.Ytjlklkaaonfpdaa
