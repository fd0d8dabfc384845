/-
  The walk of the statement SlotPlaces: all words of a hall lie one behind the other, from its base on, each once, and fill it.
-/
import Derived.Test.YtlpaijobcopbnaaSlot2
namespace Go.Proofs.Ytlpaijobcopbnaa
open Go.RowKit Go.Sort

theorem idx4 (a b c d : Value) (i : Int) (v : Value) (w : World) (h : (i = 0 ∧ v = a) ∨ (i = 1 ∧ v = b) ∨ (i = 2 ∧ v = c) ∨ (i = 3 ∧ v = d)) (ha : ∀ x ∈ [a, b, c, d], ∃ f p q, x = .func f p q) :
    (Instr.index 28 (.agg #[a, b, c, d]) (.int .i64 i)).run Try.prog w = .ok v w := by
  obtain ⟨fa, pa, qa, rfl⟩ := ha a (by simp)
  obtain ⟨fb, pb, qb, rfl⟩ := ha b (by simp)
  obtain ⟨fc, pc, qc, rfl⟩ := ha c (by simp)
  obtain ⟨fd, pd, qd, rfl⟩ := ha d (by simp)
  rcases h with ⟨rfl, rfl⟩ | ⟨rfl, rfl⟩ | ⟨rfl, rfl⟩ | ⟨rfl, rfl⟩ <;> simp [Instr.index, run_underlying Try.underlying28, asIntOf, go_sem]
theorem at_zero (B W K : Nat) : atN B W K 0 0 = B + 1 + 4 * K := by simp [atN]
theorem at_next (B W K v s : Nat) : atN B W K v s + (W + 3 * K) = atN B W K v (s + 1) := by
  unfold atN; generalize W + 3 * K = Y; rw [show 2 * v + (s + 1) = 2 * v + s + 1 by omega, Nat.add_mul (2 * v + s) 1]; omega
theorem at_two (B W K v : Nat) : atN B W K v 2 = atN B W K (v + 1) 0 := rfl
theorem at_small {B W K v s : Nat} (hB : B < 65536) (hW : W < 256) (hK : K < 256) (hv : v ≤ 256) (hs : s ≤ 1) : atN B W K v s ≤ 1000000 := by
  have h : (2 * v + s) * (W + 3 * K) ≤ 513 * 1020 := Nat.mul_le_mul (by omega) (by omega)
  unfold atN; omega

theorem qheld {B W K v X : Nat} (w : World) (hX : Hid (X = B + 1 + 0 * K)) (hB : B < 65536) (hK : K < 256) (hv : v < K) :
    Calls Try.prog 10 #[.agg #[.int .i64 B, .int .i64 W, .int .i64 K], .int .i64 v] w fun e w' => e = .returned (.int .i64 ((X + v : Nat) : Int)) ∧ Below w.heap.size w w' := by
  rw [hX.out]; exact pheld_any B W K v w (by omega) (by omega) (by omega)
theorem qasked {B W K v X : Nat} (w : World) (hX : Hid (X = B + 1 + 1 * K)) (hB : B < 65536) (hK : K < 256) (hv : v < K) :
    Calls Try.prog 11 #[.agg #[.int .i64 B, .int .i64 W, .int .i64 K], .int .i64 v] w fun e w' => e = .returned (.int .i64 ((X + v : Nat) : Int)) ∧ Below w.heap.size w w' := by
  rw [hX.out]; exact pasked_any B W K v w (by omega) (by omega) (by omega)
theorem qa {B W K v X : Nat} (w : World) (hX : Hid (X = B + 1 + 2 * K)) (hB : B < 65536) (hK : K < 256) (hv : v < K) :
    Calls Try.prog 12 #[.agg #[.int .i64 B, .int .i64 W, .int .i64 K], .int .i64 v] w fun e w' => e = .returned (.int .i64 ((X + v : Nat) : Int)) ∧ Below w.heap.size w w' := by
  rw [hX.out]; exact pa_any B W K v w (by omega) (by omega) (by omega)
theorem qb {B W K v X : Nat} (w : World) (hX : Hid (X = B + 1 + 3 * K)) (hB : B < 65536) (hK : K < 256) (hv : v < K) :
    Calls Try.prog 13 #[.agg #[.int .i64 B, .int .i64 W, .int .i64 K], .int .i64 v] w fun e w' => e = .returned (.int .i64 ((X + v : Nat) : Int)) ∧ Below w.heap.size w w' := by
  rw [hX.out]; exact pb_any B W K v w (by omega) (by omega) (by omega)
set_option maxRecDepth 20000 in
set_option maxHeartbeats 4000000 in
theorem places_walk (B W K : Nat) (w : World) (hB : B < 65536) (hW : W < 256) (hK : K < 256) :
    Calls Try.prog 3 #[.int .u16 B, .int .u8 W, .int .u8 K] w fun e w' => e = .returned (.bool true) ∧ Below w.heap.size w w' := by
  have IX := @idx4
  have HB := Lib.hid hB
  have HW := Lib.hid hW
  have HK := Lib.hid hK
  go_enter Try.func3, Try.ntmps3
  go_wp2_with fail
  refine (speaks8 _).mono ?_
  rintro e w1 ⟨rfl, hb⟩
  have B1 := Lib.hid hb
  clear hb
  have F1 := Fr.box w1 B W K 25
  go_wp2_with fail
  have B2 := Lib.hid (below_two B1.out (box1 w1 (.cells #[.int .i64 B, .int .i64 W, .int .i64 K] 25)))
  generalize w1.alloc (.cells #[.int .i64 B, .int .i64 W, .int .i64 K] 25) = w2 at *
  generalize w1.heap.size = g at *
  obtain ⟨c0, c1, c2⟩ := F1
  have k0 := cell_regrown c0
  have k1 := cell_regrown c1
  have k2 := cell_regrown c2
  refine wp_region_quiet_below (by kernel_rfl) (by kernel_rfl) ?_
  repeat (go_big_quiet_step (fail))
  refine wpQuiet_nil ?_
  intro _ hwq
  obtain ⟨⟨dq, osq⟩, hwq2⟩ := hwq
  subst hwq2
  have HQ := Lib.hid (below_regrown w2 dq osq)
  have F3 := (show Fr w2 g B W K from ⟨c0, c1, c2⟩).next HQ.out
  have B3 := Lib.hid (below_two B2.out HQ.out)
  generalize Sort.grow (redrawn w2 dq) osq = w3 at *
  clear HQ k0 k1 k2
  clear c0 c1 c2
  obtain ⟨c0, c1, c2⟩ := F3
  go_wp2_with fail
  refine (head8_any B W K _).mono ?_
  rintro e w4 ⟨rfl, hb⟩
  have F4 := (show Fr w3 g B W K from ⟨c0, c1, c2⟩).next hb
  have B4 := Lib.hid (below_two B3.out hb)
  clear hb c0 c1 c2
  obtain ⟨c0, c1, c2⟩ := F4
  go_wp2_with fail
  refine (record_any B W K _ (by omega) (by omega)).mono ?_
  rintro e w5 ⟨rfl, hb⟩
  have F5 := Lib.hid ((show Fr w4 g B W K from ⟨c0, c1, c2⟩).next hb)
  have B5 := Lib.hid (below_two B4.out hb)
  clear hb c0 c1 c2
  obtain ⟨c0, c1, c2⟩ := F5.out
  go_wp2_with fail
  clear c0 c1 c2
  go_loopw [8, 53] (fun r u wr => ∃ (i : Nat), i ≤ 4 ∧ r = .int .i64 ((B + 1 + i * K : Nat) : Int) ∧ u = .int .i64 i ∧ Fr wr g B W K ∧ Below w.heap.size w wr) (fun _ u _ => 4 - (intOf u).toNat)
  case atStart => exact ⟨0, Nat.zero_le _, by simp, rfl, F5.out, B5.out⟩
  case round =>
    obtain ⟨i, hi, rfl, rfl, FR, hbr⟩ := hrel
    have BR := Lib.hid hbr
    clear hbr
    by_cases hl : i < 4
    · have hc : i = 0 ∨ i = 1 ∨ i = 2 ∨ i = 3 := by omega
      rcases hc with rfl | rfl | rfl | rfl
      · rw [show ((0 : Nat) : Int) = 0 from rfl]
        have hXl : B + 1 + 0 * K < 100000 := by omega
        have HN : Hid (B + 1 + 0 * K + K = B + 1 + (0 + 1) * K) := by show _ = _; omega
        generalize hX : B + 1 + 0 * K = X at *
        have HX := Lib.hid hX.symm
        clear hX
        go_wp2_with fail
        go_loopw [8, 57] (fun r u wq => ∃ (v : Nat), v ≤ K ∧ r = .int .i64 ((X + v : Nat) : Int) ∧ u = .int .i64 v ∧ Fr wq g B W K ∧ Below w.heap.size w wq) (fun _ u _ => K - (intOf u).toNat)
        case atStart => exact ⟨0, Nat.zero_le _, rfl, rfl, FR, BR.out⟩
        case round =>
          obtain ⟨v, hv, rfl, rfl, FQ, hbq⟩ := hrel
          have BQ := Lib.hid hbq
          clear hbq
          by_cases hl2 : v < K
          · go_wp2_with fail
            refine (qheld _ HX HB.out HK.out hl2).mono ?_
            rintro e w6 ⟨rfl, hb⟩
            have F6 := Lib.hid (FQ.next hb)
            have B6 := Lib.hid (below_two BQ.out hb)
            clear hb
            go_wp2_with fail
            go_roundw
            case rel => exact ⟨v + 1, by omega, by go_num, by go_num, F6.out, B6.out⟩
            case measure => simp [intOf]; omega
          · obtain rfl : v = K := by omega
            go_wp2_with fail
            go_roundw
            case rel => exact ⟨0 + 1, by omega, by rw [HN.out], by go_num, FQ, BQ.out⟩
            case measure => simp [intOf]
      · rw [show ((1 : Nat) : Int) = 1 from rfl]
        have hXl : B + 1 + 1 * K < 100000 := by omega
        have HN : Hid (B + 1 + 1 * K + K = B + 1 + (1 + 1) * K) := by show _ = _; omega
        generalize hX : B + 1 + 1 * K = X at *
        have HX := Lib.hid hX.symm
        clear hX
        go_wp2_with fail
        go_loopw [8, 57] (fun r u wq => ∃ (v : Nat), v ≤ K ∧ r = .int .i64 ((X + v : Nat) : Int) ∧ u = .int .i64 v ∧ Fr wq g B W K ∧ Below w.heap.size w wq) (fun _ u _ => K - (intOf u).toNat)
        case atStart => exact ⟨0, Nat.zero_le _, rfl, rfl, FR, BR.out⟩
        case round =>
          obtain ⟨v, hv, rfl, rfl, FQ, hbq⟩ := hrel
          have BQ := Lib.hid hbq
          clear hbq
          by_cases hl2 : v < K
          · go_wp2_with fail
            refine (qasked _ HX HB.out HK.out hl2).mono ?_
            rintro e w6 ⟨rfl, hb⟩
            have F6 := Lib.hid (FQ.next hb)
            have B6 := Lib.hid (below_two BQ.out hb)
            clear hb
            go_wp2_with fail
            go_roundw
            case rel => exact ⟨v + 1, by omega, by go_num, by go_num, F6.out, B6.out⟩
            case measure => simp [intOf]; omega
          · obtain rfl : v = K := by omega
            go_wp2_with fail
            go_roundw
            case rel => exact ⟨1 + 1, by omega, by rw [HN.out], by go_num, FQ, BQ.out⟩
            case measure => simp [intOf]
      · rw [show ((2 : Nat) : Int) = 2 from rfl]
        have hXl : B + 1 + 2 * K < 100000 := by omega
        have HN : Hid (B + 1 + 2 * K + K = B + 1 + (2 + 1) * K) := by show _ = _; omega
        generalize hX : B + 1 + 2 * K = X at *
        have HX := Lib.hid hX.symm
        clear hX
        go_wp2_with fail
        go_loopw [8, 57] (fun r u wq => ∃ (v : Nat), v ≤ K ∧ r = .int .i64 ((X + v : Nat) : Int) ∧ u = .int .i64 v ∧ Fr wq g B W K ∧ Below w.heap.size w wq) (fun _ u _ => K - (intOf u).toNat)
        case atStart => exact ⟨0, Nat.zero_le _, rfl, rfl, FR, BR.out⟩
        case round =>
          obtain ⟨v, hv, rfl, rfl, FQ, hbq⟩ := hrel
          have BQ := Lib.hid hbq
          clear hbq
          by_cases hl2 : v < K
          · go_wp2_with fail
            refine (qa _ HX HB.out HK.out hl2).mono ?_
            rintro e w6 ⟨rfl, hb⟩
            have F6 := Lib.hid (FQ.next hb)
            have B6 := Lib.hid (below_two BQ.out hb)
            clear hb
            go_wp2_with fail
            go_roundw
            case rel => exact ⟨v + 1, by omega, by go_num, by go_num, F6.out, B6.out⟩
            case measure => simp [intOf]; omega
          · obtain rfl : v = K := by omega
            go_wp2_with fail
            go_roundw
            case rel => exact ⟨2 + 1, by omega, by rw [HN.out], by go_num, FQ, BQ.out⟩
            case measure => simp [intOf]
      · rw [show ((3 : Nat) : Int) = 3 from rfl]
        have hXl : B + 1 + 3 * K < 100000 := by omega
        have HN : Hid (B + 1 + 3 * K + K = B + 1 + (3 + 1) * K) := by show _ = _; omega
        generalize hX : B + 1 + 3 * K = X at *
        have HX := Lib.hid hX.symm
        clear hX
        go_wp2_with fail
        go_loopw [8, 57] (fun r u wq => ∃ (v : Nat), v ≤ K ∧ r = .int .i64 ((X + v : Nat) : Int) ∧ u = .int .i64 v ∧ Fr wq g B W K ∧ Below w.heap.size w wq) (fun _ u _ => K - (intOf u).toNat)
        case atStart => exact ⟨0, Nat.zero_le _, rfl, rfl, FR, BR.out⟩
        case round =>
          obtain ⟨v, hv, rfl, rfl, FQ, hbq⟩ := hrel
          have BQ := Lib.hid hbq
          clear hbq
          by_cases hl2 : v < K
          · go_wp2_with fail
            refine (qb _ HX HB.out HK.out hl2).mono ?_
            rintro e w6 ⟨rfl, hb⟩
            have F6 := Lib.hid (FQ.next hb)
            have B6 := Lib.hid (below_two BQ.out hb)
            clear hb
            go_wp2_with fail
            go_roundw
            case rel => exact ⟨v + 1, by omega, by go_num, by go_num, F6.out, B6.out⟩
            case measure => simp [intOf]; omega
          · obtain rfl : v = K := by omega
            go_wp2_with fail
            go_roundw
            case rel => exact ⟨3 + 1, by omega, by rw [HN.out], by go_num, FQ, BQ.out⟩
            case measure => simp [intOf]
    · obtain rfl : i = 4 := by omega
      rw [show ((4 : Nat) : Int) = 4 from rfl]
      have EZ := Lib.hid (at_zero B W K)
      generalize B + 1 + 4 * K = Z0 at *
      go_wp2_with fail
      go_loopw [8, 70] (fun r u wq => ∃ (v : Nat), v ≤ K ∧ r = .int .i64 (atN B W K v 0 : Nat) ∧ u = .int .i64 v ∧ Fr wq g B W K ∧ Below w.heap.size w wq) (fun _ u _ => K - (intOf u).toNat)
      case atStart => exact ⟨0, Nat.zero_le _, by rw [EZ.out], rfl, FR, BR.out⟩
      case round =>
        obtain ⟨v, hv, rfl, rfl, FQ, hbq⟩ := hrel
        have BQ := Lib.hid hbq
        clear hbq
        by_cases hl2 : v < K
        · go_wp2_with fail
          go_loopw [8, 73] (fun r u wp => ∃ (s : Nat), s ≤ 2 ∧ r = .int .i64 (atN B W K v s : Nat) ∧ u = .int .i64 s ∧ Fr wp g B W K ∧ Below w.heap.size w wp) (fun _ u _ => 2 - (intOf u).toNat)
          case atStart => exact ⟨0, Nat.zero_le _, rfl, rfl, FQ, BQ.out⟩
          case round =>
            obtain ⟨s, hs, rfl, rfl, FP, hbp⟩ := hrel
            have BP := Lib.hid hbp
            clear hbp
            by_cases hl3 : s < 2
            · have AT := Lib.hid fun w1 => at_any B W K v s w1 (by omega) (by omega) (by omega) (by omega) (by omega)
              have RC := Lib.hid fun w1 => record_any B W K w1 (by omega) (by omega)
              have HN := Lib.hid (at_next B W K v s)
              have hZ := at_small (v := v) (s := s) HB.out HW.out HK.out (by omega) (by omega)
              have hY : W + 3 * K < 2000 := by omega
              generalize atN B W K v s = Z at *
              generalize W + 3 * K = Y at *
              obtain ⟨c0, c1, c2⟩ := FP
              go_wp2_with fail
              refine (AT.out _).mono ?_
              rintro e w6 ⟨rfl, hb⟩
              have F6 := (show Fr wr g B W K from ⟨c0, c1, c2⟩).next hb
              have B6 := Lib.hid (below_two BP.out hb)
              clear hb c0 c1 c2
              obtain ⟨c0, c1, c2⟩ := F6
              go_wp2_with fail
              refine (RC.out _).mono ?_
              rintro e w7 ⟨rfl, hb⟩
              have F7 := Lib.hid ((show Fr w6 g B W K from ⟨c0, c1, c2⟩).next hb)
              have B7 := Lib.hid (below_two B6.out hb)
              clear hb c0 c1 c2
              go_wp2_with fail
              go_roundw
              case rel => exact ⟨s + 1, by omega, by rw [← HN.out]; go_num, by go_num, F7.out, B7.out⟩
              case measure => simp [intOf]; omega
            · obtain rfl : s = 2 := by omega
              rw [at_two]
              obtain ⟨c0, c1, c2⟩ := FP
              have hvK : v ≤ 1048576 := by omega
              go_wp2_with fail
              have k0 := cell_regrown c0
              have k1 := cell_regrown c1
              have k2 := cell_regrown c2
              have cA := fun d os => Calls.regrown_of (done_any B W K v (grow (redrawn wr d) os) (by omega) hvK)
              have cB := fun d os => Calls.regrown_of (answer_any B W K v (grow (redrawn wr d) os) (by omega) hvK)
              refine wp_region_quiet_below (by kernel_rfl) (by kernel_rfl) ?_
              repeat (go_big_quiet_step (first | exact cA _ _ | exact cB _ _))
              refine wpQuiet_nil ?_
              intro _ hwq
              obtain ⟨⟨dq, osq⟩, hwq2⟩ := hwq
              subst hwq2
              have HQ := Lib.hid (below_regrown wr dq osq)
              have F8 := Lib.hid ((show Fr wr g B W K from ⟨c0, c1, c2⟩).next HQ.out)
              have B8 := Lib.hid (below_two BP.out HQ.out)
              generalize Sort.grow (redrawn wr dq) osq = w8 at *
              clear HQ k0 k1 k2 cA cB
              clear c0 c1 c2
              go_wp2_with fail
              go_roundw
              case rel => exact ⟨v + 1, by omega, rfl, by go_num, F8.out, B8.out⟩
              case measure => simp [intOf]; omega
        · obtain rfl : v = K := by omega
          have SZ := Lib.hid fun w1 => size8_any B W v w1 (by omega) (by omega) (by omega)
          have hZ := at_small (v := v) (s := 0) HB.out HW.out HK.out (by omega) (by omega)
          have hZ2 : B ≤ atN B W v v 0 := by unfold atN; omega
          have HE : Hid (((atN B W v v 0 - B : Nat) : Int) = (atN B W v v 0 : Nat) - (B : Int)) := by show _ = _; omega
          generalize atN B W v v 0 = Z at *
          rw [HE.out] at SZ
          obtain ⟨c0, c1, c2⟩ := FQ
          go_wp2_with fail
          have k0 := cell_regrown c0
          have k1 := cell_regrown c1
          have k2 := cell_regrown c2
          have cA := fun d os => Calls.regrown_of (SZ.out (grow (redrawn wr d) os))
          refine wp_region_quiet_below (by kernel_rfl) (by kernel_rfl) ?_
          repeat (go_big_quiet_step (first | exact cA _ _))
          refine wpQuiet_nil ?_
          intro _ hwq
          obtain ⟨⟨dq, osq⟩, hwq2⟩ := hwq
          subst hwq2
          have HQ := Lib.hid (below_regrown wr dq osq)
          have B8 := Lib.hid (below_two BQ.out HQ.out)
          generalize Sort.grow (redrawn wr dq) osq = w8 at *
          clear HQ k0 k1 k2 cA
          go_wp2_with fail
          go_ret
          exact ⟨rfl, B8.out⟩

end Go.Proofs.Ytlpaijobcopbnaa
