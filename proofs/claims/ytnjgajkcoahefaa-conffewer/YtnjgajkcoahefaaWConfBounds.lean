/-
  The walk of the statement ConfBounds: the bounds are the document's, and grow with whatever grows.
-/
import Derived.Test.YtnjgajkcoahefaaConf5
namespace Go.Proofs.Ytnjgajkcoahefaa
open Go.RowKit

theorem may_nums {W S B T : Int} {len : Nat} {f : Nat → Int} (h : mayB W S B T len f = true) : (1 ≤ W ∧ W ≤ 64) ∧ (1 ≤ S ∧ S ≤ 64) ∧ (1 ≤ B ∧ B ≤ 64) ∧ (0 ≤ T ∧ T ≤ 8) ∧ (1 ≤ len ∧ len ≤ 16) ∧ clsTo f len = true := by
  simp [mayB, numB, in4, clsAll] at h
  exact ⟨by omega, by omega, by omega, by omega, by omega, h.2.2⟩
theorem may_of {W S B T : Int} {len : Nat} {f : Nat → Int} (h1 : 1 ≤ W ∧ W ≤ 64) (h2 : 1 ≤ S ∧ S ≤ 64) (h3 : 1 ≤ B ∧ B ≤ 64) (h4 : 0 ≤ T ∧ T ≤ 8) (h5 : 1 ≤ len ∧ len ≤ 16) (h6 : clsTo f len = true) : mayB W S B T len f = true := by
  simp [mayB, numB, in4, clsAll]
  exact ⟨by omega, by omega, h6⟩
theorem bound_form2 (W S T : Int) : boundI W S T = (T + 2) * (4 * S + 10 * W + 6) + 8 := by
  rw [bound_form]; congr 2; omega
theorem bound_W (W S T : Int) (h : 0 ≤ T) : boundI W S T < boundI (W + 1) S T := by
  rw [bound_form2, bound_form2, show 4 * S + 10 * (W + 1) + 6 = (4 * S + 10 * W + 6) + 10 from by omega]
  generalize 4 * S + 10 * W + 6 = q
  rw [Int.mul_add]; omega
theorem bound_S (W S T : Int) (h : 0 ≤ T) : boundI W S T < boundI W (S + 1) T := by
  rw [bound_form2, bound_form2, show 4 * (S + 1) + 10 * W + 6 = (4 * S + 10 * W + 6) + 4 from by omega]
  generalize 4 * S + 10 * W + 6 = q
  rw [Int.mul_add]; omega
theorem bound_T (W S T : Int) (h1 : 0 ≤ W) (h2 : 0 ≤ S) : boundI W S T < boundI W S (T + 1) := by
  rw [bound_form2, bound_form2, show T + 1 + 2 = (T + 2) + 1 from by omega]
  have hq : 0 < 4 * S + 10 * W + 6 := by omega
  generalize 4 * S + 10 * W + 6 = q at *
  rw [Int.add_mul (T + 2) 1 q]; omega
theorem bound_att (W S T : Int) (h : 0 ≤ T) (h1 : 0 ≤ W) (h2 : 0 ≤ S) : attI (2 * S) W < boundI W S T := by
  unfold boundI callI
  have hA : 0 ≤ attI (2 * S) W := by unfold attI; omega
  rw [show T + 2 = (T + 1) + 1 from by omega, Int.mul_add, Int.mul_one]
  have := Int.mul_nonneg hA (show 0 ≤ T + 1 by omega)
  omega
theorem bound_call (W S T : Int) : callI (2 * S) W T + 2 = boundI W S T := rfl
theorem bound_range (W S T : Int) (h1 : 0 ≤ W) (h2 : W ≤ 1000) (h3 : 0 ≤ S) (h4 : S ≤ 1000) (h5 : 0 ≤ T) (h6 : T ≤ 1000) : 0 ≤ boundI W S T ∧ boundI W S T ≤ 50000000000000 := by
  obtain ⟨b1, b2⟩ := att_bounds (show 0 ≤ 2 * S by omega) (show 2 * S ≤ 1048577 by omega) h1 (show W ≤ 1048577 by omega)
  obtain ⟨b3, b4⟩ := mul_bounds (t := T) (by omega) b2 h5 (by omega)
  unfold boundI callI
  omega

/-- The four systems of the statement, and what lay there before. -/
structure Four (w00 w : World) (N M : Nat) (W S B T : Int) (cl : Value) : Prop where
  c : Cfg5 w N W S B T cl
  d : Cfg5 w M (W + 1) S B T cl
  e : Cfg5 w (M + 1) W (S + 1) B T cl
  f : Cfg5 w (M + 1 + 1) W S B (T + 1) cl
  bel : Below N w00 w
theorem Four.next {w00 w w' : World} {N M : Nat} {W S B T : Int} {cl : Value} (h : Four w00 w N M W S B T cl) (b : Below w.heap.size w w') : Four w00 w' N M W S B T cl :=
  ⟨cfg_next h.c b, cfg_next h.d b, cfg_next h.e b, cfg_next h.f b, h.bel.trans (b.mono (Nat.le_of_lt (cfg_lt h.c)))⟩
theorem Four.drew {w00 w : World} {N M : Nat} {W S B T : Int} {cl : Value} (h : Four w00 w N M W S B T cl) : Four w00 w.drew N M W S B T cl := ⟨h.c, h.d, h.e, h.f, h.bel.drew⟩
theorem Four.start {w00 w : World} {N : Nat} {W S B T : Int} {cl : Value} (h : Cfg5 w N W S B T cl) (b : Below N w00 w) :
    Four w00 (((w.alloc (.cells #[.int .i64 (W + 1), .int .i64 S, .int .i64 B, .int .i64 T, cl] 48)).alloc (.cells #[.int .i64 W, .int .i64 (S + 1), .int .i64 B, .int .i64 T, cl] 48)).alloc (.cells #[.int .i64 W, .int .i64 S, .int .i64 B, .int .i64 (T + 1), cl] 48)) N w.heap.size W S B T cl := by
  have b1 := below_alloc w (.cells #[.int .i64 (W + 1), .int .i64 S, .int .i64 B, .int .i64 T, cl] 48)
  have b2 := below_alloc (w.alloc (.cells #[.int .i64 (W + 1), .int .i64 S, .int .i64 B, .int .i64 T, cl] 48)) (.cells #[.int .i64 W, .int .i64 (S + 1), .int .i64 B, .int .i64 T, cl] 48)
  have b3 := below_alloc ((w.alloc (.cells #[.int .i64 (W + 1), .int .i64 S, .int .i64 B, .int .i64 T, cl] 48)).alloc (.cells #[.int .i64 W, .int .i64 (S + 1), .int .i64 B, .int .i64 T, cl] 48)) (.cells #[.int .i64 W, .int .i64 S, .int .i64 B, .int .i64 (T + 1), cl] 48)
  have n1 := cfg_new w (W + 1) S B T cl
  have n2 := cfg_new (w.alloc (.cells #[.int .i64 (W + 1), .int .i64 S, .int .i64 B, .int .i64 T, cl] 48)) W (S + 1) B T cl
  have n3 := cfg_new ((w.alloc (.cells #[.int .i64 (W + 1), .int .i64 S, .int .i64 B, .int .i64 T, cl] 48)).alloc (.cells #[.int .i64 W, .int .i64 (S + 1), .int .i64 B, .int .i64 T, cl] 48)) W S B (T + 1) cl
  have e1 : (w.alloc (.cells #[.int .i64 (W + 1), .int .i64 S, .int .i64 B, .int .i64 T, cl] 48)).heap.size = w.heap.size + 1 := by simp
  have e2 : ((w.alloc (.cells #[.int .i64 (W + 1), .int .i64 S, .int .i64 B, .int .i64 T, cl] 48)).alloc (.cells #[.int .i64 W, .int .i64 (S + 1), .int .i64 B, .int .i64 T, cl] 48)).heap.size = w.heap.size + 1 + 1 := by simp
  have hN := cfg_lt h
  refine ⟨cfg_next (cfg_next (cfg_next h b1) b2) b3, cfg_next (cfg_next n1 b2) b3, ?_, ?_, b.trans (Below.mono (below_after (below_after b1 b2) b3) (Nat.le_of_lt hN))⟩
  · rw [e1] at n2; exact cfg_next n2 b3
  · rw [e2] at n3; exact n3

/-- The state between two rounds: the system, and the row of the three that are greater. -/
structure Three3 (w00 w : World) (N X : Nat) (W S B T : Int) (ad : Option Addr) (len cap : Nat) : Prop where
  c : Cfg5 w N W S B T (.slice ad len cap)
  row : w.heap[X]? = some (.cells #[.int .i64 (W + 1), .int .i64 S, .int .i64 B, .int .i64 T, .slice ad len cap, .int .i64 W, .int .i64 (S + 1), .int .i64 B, .int .i64 T, .slice ad len cap, .int .i64 W, .int .i64 S, .int .i64 B, .int .i64 (T + 1), .slice ad len cap] 48 (0, 0))
  bel : Below N w00 w
theorem Three3.next {w00 w w' : World} {N X : Nat} {W S B T : Int} {ad : Option Addr} {len cap : Nat} (h : Three3 w00 w N X W S B T ad len cap) (b : Below w.heap.size w w') : Three3 w00 w' N X W S B T ad len cap :=
  ⟨cfg_next h.c b, (b.block X (Array.getElem?_eq_some_iff.1 h.row).1).trans h.row, h.bel.trans (b.mono (Nat.le_of_lt (cfg_lt h.c)))⟩
theorem Three3.cells {w00 w : World} {N X : Nat} {W S B T : Int} {ad : Option Addr} {len cap : Nat} (h : Three3 w00 w N X W S B T ad len cap) :
    (w.cell? ⟨X, 0, none⟩ = some (.int .i64 (W + 1)) ∧ w.cell? ⟨X, 1, none⟩ = some (.int .i64 S) ∧ w.cell? ⟨X, 2, none⟩ = some (.int .i64 B) ∧ w.cell? ⟨X, 3, none⟩ = some (.int .i64 T) ∧ w.cell? ⟨X, 4, none⟩ = some (.slice ad len cap)) ∧
    (w.cell? ⟨X, 5, none⟩ = some (.int .i64 W) ∧ w.cell? ⟨X, 6, none⟩ = some (.int .i64 (S + 1)) ∧ w.cell? ⟨X, 7, none⟩ = some (.int .i64 B) ∧ w.cell? ⟨X, 8, none⟩ = some (.int .i64 T) ∧ w.cell? ⟨X, 9, none⟩ = some (.slice ad len cap)) ∧
    (w.cell? ⟨X, 10, none⟩ = some (.int .i64 W) ∧ w.cell? ⟨X, 11, none⟩ = some (.int .i64 S) ∧ w.cell? ⟨X, 12, none⟩ = some (.int .i64 B) ∧ w.cell? ⟨X, 13, none⟩ = some (.int .i64 (T + 1)) ∧ w.cell? ⟨X, 14, none⟩ = some (.slice ad len cap)) := by
  have h2 := h.row
  refine ⟨⟨?_, ?_, ?_, ?_, ?_⟩, ⟨?_, ?_, ?_, ?_, ?_⟩, ⟨?_, ?_, ?_, ?_, ?_⟩⟩ <;> simp [World.cell?, h2]

set_option maxRecDepth 20000 in
set_option maxHeartbeats 4000000 in
theorem bounds_yes (W S B T : Int) (ad : Option Addr) (len cap : Nat) (f : Nat → Int) (w : World) (hr : Hid (RowI w ad len f)) (hl : len < 9223372036854775808) (hm : Hid (mayB W S B T len f = true)) :
    Calls Try.prog 10 #[.agg #[.int .i64 W, .int .i64 S, .int .i64 B, .int .i64 T, .slice ad len cap]] w fun e w' => e = .returned (.bool true) ∧ Below w.heap.size w w' := by
  have B0 := Lib.hid (below_alloc w (.cells #[.int .i64 W, .int .i64 S, .int .i64 B, .int .i64 T, .slice ad len cap] 48))
  have C0 := Lib.hid (cfg_new w W S B T (.slice ad len cap))
  obtain ⟨⟨w1, w2⟩, ⟨s1, s2⟩, ⟨b1, b2⟩, ⟨t1, t2⟩, ⟨l1, l2⟩, hcls⟩ := may_nums hm.out
  clear hcls
  go_enter Try.func10, Try.ntmps10
  go_wp2_with fail
  generalize w.alloc (.cells #[.int .i64 W, .int .i64 S, .int .i64 B, .int .i64 T, .slice ad len cap] 48) = w0 at *
  generalize hN : w.heap.size = N at *
  refine (speaks4 _).mono ?_
  rintro e wa ⟨rfl, hb⟩
  have C1 := Lib.hid (cfg_next C0.out hb)
  have B1 : Hid (Below N w wa) := B0.out.trans (hb.mono (Nat.le_of_lt (cfg_lt C0.out)))
  clear hb C0
  obtain ⟨c0, c1, c2, c3, c4⟩ := cfg_cells C1.out
  go_wp2_with fail
  refine (rmay_any W S B T ad len cap f _ (hr.out.next (by rw [hN]; exact B1.out)) hl).mono ?_
  rintro e wb ⟨he, hb⟩
  have he' : e = .returned (.bool true) := by rw [he, hm.out]
  subst he'
  have C2 := Lib.hid (cfg_next C1.out hb)
  have B2 : Hid (Below N w wb) := B1.out.trans (hb.mono (Nat.le_of_lt (cfg_lt C1.out)))
  clear hb C1 c0 c1 c2 c3 c4 he
  obtain ⟨c0, c1, c2, c3, c4⟩ := cfg_cells C2.out
  have lN : N < wb.heap.size := cfg_lt C2.out
  have lN' : ¬ N = wb.heap.size := by omega
  have lN2 : ¬ N = wb.heap.size + 1 := by omega
  have lN3 : ¬ N = wb.heap.size + 1 + 1 := by omega
  have F3 := Lib.hid (Four.start C2.out B2.out)
  obtain ⟨k0, k1, k2, k3, k4⟩ := cfg_cells F3.out.c
  have lN4 : ¬ N = wb.heap.size + 2 := by omega
  have HBA := Lib.hid (fun w => bound_any W S B T (.slice ad len cap) w (by omega) (by omega) (by omega) (by omega) t1 (by omega))
  have HRB := Lib.hid (fun w => rbound_any W S B T (.slice ad len cap) w (by omega) (by omega) (by omega) (by omega) t1 (by omega))
  have HSA := Lib.hid (fun w => state_any W S B T (.slice ad len cap) w (by omega) (by omega))
  have HCA := Lib.hid (fun w => call_any (2 * S) W T w (by omega) (by omega) (by omega) (by omega) t1 (by omega))
  have HAA := Lib.hid (fun w => attempt_any (2 * S) W w (by omega) (by omega) (by omega) (by omega))
  have HGW := Lib.hid (bound_W W S T t1)
  have HGS := Lib.hid (bound_S W S T t1)
  have HGT := Lib.hid (bound_T W S T (by omega) (by omega))
  have HGA := Lib.hid (bound_att W S T t1 (by omega) (by omega))
  have HCB := Lib.hid (bound_call W S T)
  obtain ⟨r1, r2⟩ := bound_range W S T (by omega) (by omega) (by omega) (by omega) t1 (by omega)
  obtain ⟨a1, a2⟩ := att_bounds (a := 2 * S) (b := W) (by omega) (by omega) (by omega) (by omega)
  generalize boundI W S T = R at *
  have hC : callI (2 * S) W T = R - 2 := by have := HCB.out; omega
  rw [hC] at HCA
  clear HCB hC
  generalize attI (2 * S) W = AT at *
  go_wp2_with fail
  generalize ((wb.alloc (.cells #[.int .i64 (W + 1), .int .i64 S, .int .i64 B, .int .i64 T, .slice ad len cap] 48)).alloc (.cells #[.int .i64 W, .int .i64 (S + 1), .int .i64 B, .int .i64 T, .slice ad len cap] 48)).alloc (.cells #[.int .i64 W, .int .i64 S, .int .i64 B, .int .i64 (T + 1), .slice ad len cap] 48) = w3 at *
  generalize hM : wb.heap.size = M at *
  refine (HBA.out _).mono ?_
  rintro e w4 ⟨rfl, hb⟩
  have F4 := Lib.hid (F3.out.next hb)
  clear hb F3 C2 B2 c0 c1 c2 c3 c4 k0 k1 k2 k3 k4
  obtain ⟨c0, c1, c2, c3, c4⟩ := cfg_cells F4.out.c
  have l4 : N < w4.drew.heap.size := cfg_lt F4.out.c
  go_wp2_with fail
  go_region_held3 (fun w' => w'.cell? ⟨N, 0, none⟩ = some (.int .i64 W) ∧ w'.cell? ⟨N, 1, none⟩ = some (.int .i64 S) ∧ w'.cell? ⟨N, 2, none⟩ = some (.int .i64 B) ∧ w'.cell? ⟨N, 3, none⟩ = some (.int .i64 T) ∧ w'.cell? ⟨N, 4, none⟩ = some (.slice ad len cap)) (first | (go_keep; done) | with_reducible exact ⟨sA0, sA1, sA2, sA3, sA4⟩ | with_reducible exact ⟨sB0, sB1, sB2, sB3, sB4⟩) ((first | (go_at_call 33; refine (HRB.out _).mono ?_; rintro e w5 ⟨rfl, hbA⟩; have lA : N < w5.heap.size := Nat.lt_of_lt_of_le l4 hbA.size; have sA0 := (hbA.cell (p := ⟨N, 0, none⟩) l4).trans c0; have sA1 := (hbA.cell (p := ⟨N, 1, none⟩) l4).trans c1; have sA2 := (hbA.cell (p := ⟨N, 2, none⟩) l4).trans c2; have sA3 := (hbA.cell (p := ⟨N, 3, none⟩) l4).trans c3; have sA4 := (hbA.cell (p := ⟨N, 4, none⟩) l4).trans c4) | (go_at_call 35; refine (HSA.out _).mono ?_; rintro e w6 ⟨rfl, hbB⟩; have lB : N < w6.heap.size := Nat.lt_of_lt_of_le lA hbB.size; have sB0 := (hbB.cell (p := ⟨N, 0, none⟩) lA).trans sA0; have sB1 := (hbB.cell (p := ⟨N, 1, none⟩) lA).trans sA1; have sB2 := (hbB.cell (p := ⟨N, 2, none⟩) lA).trans sA2; have sB3 := (hbB.cell (p := ⟨N, 3, none⟩) lA).trans sA3; have sB4 := (hbB.cell (p := ⟨N, 4, none⟩) lA).trans sA4) | (go_at_call 34; refine (HCA.out _).mono ?_; rintro e w7 ⟨rfl, rfl⟩)))
  have F6 := Lib.hid ((F4.out.drew.next hbA).next hbB)
  have HV1 : Hid (IntKind.i64.wrap (R - 2 + 2) = R) := by show IntKind.i64.wrap (R - 2 + 2) = R; rw [IntKind.wrap_i64]; omega
  have HV2 : Hid (IntKind.i64.wrap R = R) := by show IntKind.i64.wrap R = R; rw [IntKind.wrap_i64]; omega
  clear c0 c1 c2 c3 c4 sA0 sA1 sA2 sA3 sA4 sB0 sB1 sB2 sB3 sB4 hbA hbB F4 lA lB l4
  first | rw [HV1.out] | rw [HV2.out]
  rw [show (R != R) = false from by simp]
  obtain ⟨c0, c1, c2, c3, c4⟩ := cfg_cells F6.out.c
  obtain ⟨d0, d1, d2, d3, d4⟩ := cfg_cells F6.out.d
  obtain ⟨e0, e1, e2, e3, e4⟩ := cfg_cells F6.out.e
  obtain ⟨f0, f1, f2, f3, f4⟩ := cfg_cells F6.out.f
  go_wp2_with fail
  have D7 : Hid (Three3 w (w6.alloc (.cells #[.int .i64 (W + 1), .int .i64 S, .int .i64 B, .int .i64 T, .slice ad len cap, .int .i64 W, .int .i64 (S + 1), .int .i64 B, .int .i64 T, .slice ad len cap, .int .i64 W, .int .i64 S, .int .i64 B, .int .i64 (T + 1), .slice ad len cap] 48)) N w6.heap.size W S B T ad len cap) :=
    ⟨cfg_next F6.out.c (below_alloc _ _), heap_at _ _, F6.out.bel.alloc (Nat.le_of_lt (cfg_lt F6.out.c)) _⟩
  clear c0 c1 c2 c3 c4 d0 d1 d2 d3 d4 e0 e1 e2 e3 e4 f0 f1 f2 f3 f4 F6
  generalize w6.alloc (.cells #[.int .i64 (W + 1), .int .i64 S, .int .i64 B, .int .i64 T, .slice ad len cap, .int .i64 W, .int .i64 (S + 1), .int .i64 B, .int .i64 T, .slice ad len cap, .int .i64 W, .int .i64 S, .int .i64 B, .int .i64 (T + 1), .slice ad len cap] 48) = w7 at *
  generalize hX : w6.heap.size = X at *
  go_loopw [52] (fun u wr => ∃ i : Nat, i ≤ 3 ∧ u = .int .i64 i ∧ Three3 w wr N X W S B T ad len cap) (fun u _ => 3 - (intOf u).toNat)
  case atStart => exact ⟨0, by omega, rfl, D7.out⟩
  case round =>
    obtain ⟨i, hi, rfl, d⟩ := hrel
    have D := Lib.hid d
    clear d D7
    rcases (by omega : i = 0 ∨ i = 1 ∨ i = 2 ∨ i = 3) with rfl | rfl | rfl | rfl
    · obtain ⟨⟨x0, x1, x2, x3, x4⟩, _, _⟩ := D.out.cells
      have HMY := Lib.hid (fun w hr => rmay_any (W + 1) S B T ad len cap f w hr hl)
      have HBX := Lib.hid (fun w => bound_any (W + 1) S B T (.slice ad len cap) w (by omega) (by omega) (by omega) (by omega) (by omega) (by omega))
      have HGX := HGW.out
      generalize boundI (W + 1) S T = R' at *
      have DA := Lib.hid (D.out.next (below_alloc wr (.cells #[.int .i64 (W + 1), .int .i64 S, .int .i64 B, .int .i64 T, .slice ad len cap] 48)))
      have CA := Lib.hid (cfg_new wr (W + 1) S B T (.slice ad len cap))
      go_wp2_with fail
      generalize wr.alloc (.cells #[.int .i64 (W + 1), .int .i64 S, .int .i64 B, .int .i64 T, .slice ad len cap] 48) = wx at *
      generalize hY : wr.heap.size = Y at *
      refine (HMY.out _ (hr.out.next (by rw [hN]; exact DA.out.bel))).mono ?_
      rintro e wy ⟨rfl, hb⟩
      have DB := Lib.hid (DA.out.next hb)
      have CB := Lib.hid (cfg_next CA.out hb)
      clear hb DA CA
      obtain ⟨y0, y1, y2, y3, y4⟩ := cfg_cells CB.out
      generalize mayB (W + 1) S B T len f = Q at *
      cases Q
      · go_wp2_with fail
        go_roundw
        case rel => exact ⟨1, by omega, rfl, DB.out⟩
        case measure => simp [intOf]
      · go_wp2_with fail
        refine (HBX.out _).mono ?_
        rintro e wz ⟨rfl, hb⟩
        have DC := Lib.hid (DB.out.next hb)
        clear hb
        have hlt : ¬ R' ≤ R := by omega
        go_wp2_with fail
        go_roundw
        case rel => exact ⟨1, by omega, rfl, DC.out⟩
        case measure => simp [intOf]
    · obtain ⟨_, ⟨x0, x1, x2, x3, x4⟩, _⟩ := D.out.cells
      have HMY := Lib.hid (fun w hr => rmay_any W (S + 1) B T ad len cap f w hr hl)
      have HBX := Lib.hid (fun w => bound_any W (S + 1) B T (.slice ad len cap) w (by omega) (by omega) (by omega) (by omega) (by omega) (by omega))
      have HGX := HGS.out
      generalize boundI W (S + 1) T = R' at *
      have DA := Lib.hid (D.out.next (below_alloc wr (.cells #[.int .i64 W, .int .i64 (S + 1), .int .i64 B, .int .i64 T, .slice ad len cap] 48)))
      have CA := Lib.hid (cfg_new wr W (S + 1) B T (.slice ad len cap))
      go_wp2_with fail
      generalize wr.alloc (.cells #[.int .i64 W, .int .i64 (S + 1), .int .i64 B, .int .i64 T, .slice ad len cap] 48) = wx at *
      generalize hY : wr.heap.size = Y at *
      refine (HMY.out _ (hr.out.next (by rw [hN]; exact DA.out.bel))).mono ?_
      rintro e wy ⟨rfl, hb⟩
      have DB := Lib.hid (DA.out.next hb)
      have CB := Lib.hid (cfg_next CA.out hb)
      clear hb DA CA
      obtain ⟨y0, y1, y2, y3, y4⟩ := cfg_cells CB.out
      generalize mayB W (S + 1) B T len f = Q at *
      cases Q
      · go_wp2_with fail
        go_roundw
        case rel => exact ⟨2, by omega, rfl, DB.out⟩
        case measure => simp [intOf]
      · go_wp2_with fail
        refine (HBX.out _).mono ?_
        rintro e wz ⟨rfl, hb⟩
        have DC := Lib.hid (DB.out.next hb)
        clear hb
        have hlt : ¬ R' ≤ R := by omega
        go_wp2_with fail
        go_roundw
        case rel => exact ⟨2, by omega, rfl, DC.out⟩
        case measure => simp [intOf]
    · obtain ⟨_, _, ⟨x0, x1, x2, x3, x4⟩⟩ := D.out.cells
      have HMY := Lib.hid (fun w hr => rmay_any W S B (T + 1) ad len cap f w hr hl)
      have HBX := Lib.hid (fun w => bound_any W S B (T + 1) (.slice ad len cap) w (by omega) (by omega) (by omega) (by omega) (by omega) (by omega))
      have HGX := HGT.out
      generalize boundI W S (T + 1) = R' at *
      have DA := Lib.hid (D.out.next (below_alloc wr (.cells #[.int .i64 W, .int .i64 S, .int .i64 B, .int .i64 (T + 1), .slice ad len cap] 48)))
      have CA := Lib.hid (cfg_new wr W S B (T + 1) (.slice ad len cap))
      go_wp2_with fail
      generalize wr.alloc (.cells #[.int .i64 W, .int .i64 S, .int .i64 B, .int .i64 (T + 1), .slice ad len cap] 48) = wx at *
      generalize hY : wr.heap.size = Y at *
      refine (HMY.out _ (hr.out.next (by rw [hN]; exact DA.out.bel))).mono ?_
      rintro e wy ⟨rfl, hb⟩
      have DB := Lib.hid (DA.out.next hb)
      have CB := Lib.hid (cfg_next CA.out hb)
      clear hb DA CA
      obtain ⟨y0, y1, y2, y3, y4⟩ := cfg_cells CB.out
      generalize mayB W S B (T + 1) len f = Q at *
      cases Q
      · go_wp2_with fail
        go_roundw
        case rel => exact ⟨3, by omega, rfl, DB.out⟩
        case measure => simp [intOf]
      · go_wp2_with fail
        refine (HBX.out _).mono ?_
        rintro e wz ⟨rfl, hb⟩
        have DC := Lib.hid (DB.out.next hb)
        clear hb
        have hlt : ¬ R' ≤ R := by omega
        go_wp2_with fail
        go_roundw
        case rel => exact ⟨3, by omega, rfl, DC.out⟩
        case measure => simp [intOf]
    · obtain ⟨c0, c1, c2, c3, c4⟩ := cfg_cells D.out.c
      have lw : N < wr.drew.heap.size := cfg_lt D.out.c
      have hAT := HGA.out
      have hw2 : IntKind.i64.wrap (2 * S) = 2 * S := by rw [IntKind.wrap_i64]; omega
      go_wp2_with fail
      go_region_held3 (fun w' => w'.cell? ⟨N, 0, none⟩ = some (.int .i64 W) ∧ w'.cell? ⟨N, 1, none⟩ = some (.int .i64 S) ∧ w'.cell? ⟨N, 2, none⟩ = some (.int .i64 B) ∧ w'.cell? ⟨N, 3, none⟩ = some (.int .i64 T) ∧ w'.cell? ⟨N, 4, none⟩ = some (.slice ad len cap)) (first | (go_keep; done) | with_reducible exact ⟨sP0, sP1, sP2, sP3, sP4⟩ | with_reducible exact ⟨sQ0, sQ1, sQ2, sQ3, sQ4⟩) ((first | (go_at_call 35; refine (HSA.out wr.drew).mono ?_; rintro e wSP ⟨rfl, hbP⟩; have lP : N < wSP.heap.size := Nat.lt_of_lt_of_le lw hbP.size; have sP0 := (hbP.cell (p := ⟨N, 0, none⟩) lw).trans c0; have sP1 := (hbP.cell (p := ⟨N, 1, none⟩) lw).trans c1; have sP2 := (hbP.cell (p := ⟨N, 2, none⟩) lw).trans c2; have sP3 := (hbP.cell (p := ⟨N, 3, none⟩) lw).trans c3; have sP4 := (hbP.cell (p := ⟨N, 4, none⟩) lw).trans c4) | (go_at_call 35; refine (HSA.out wSP).mono ?_; rintro e wSQ ⟨rfl, hbQ⟩; have lQ : N < wSQ.heap.size := Nat.lt_of_lt_of_le lP hbQ.size; have sQ0 := (hbQ.cell (p := ⟨N, 0, none⟩) lP).trans sP0; have sQ1 := (hbQ.cell (p := ⟨N, 1, none⟩) lP).trans sP1; have sQ2 := (hbQ.cell (p := ⟨N, 2, none⟩) lP).trans sP2; have sQ3 := (hbQ.cell (p := ⟨N, 3, none⟩) lP).trans sP3; have sQ4 := (hbQ.cell (p := ⟨N, 4, none⟩) lP).trans sP4) | (go_at_call 36; refine (HAA.out _).mono ?_; rintro e w9 ⟨rfl, rfl⟩)))
      have BZ : Hid (Below N w wSQ) := (below_drew2 D.out.bel (Nat.le_of_lt lw) hbP).trans (hbQ.mono (Nat.le_of_lt lP))
      clear sP0 sP1 sP2 sP3 sP4 sQ0 sQ1 sQ2 sQ3 sQ4 c0 c1 c2 c3 c4 hbP hbQ
      go_wp2_with fail
      go_ret
      exact ⟨rfl, by rw [hN]; exact BZ.out⟩

set_option maxHeartbeats 1000000 in
theorem bounds_no (W S B T : Int) (ad : Option Addr) (len cap : Nat) (f : Nat → Int) (w : World) (hr : Hid (RowI w ad len f)) (hl : len < 9223372036854775808) (hm : Hid (mayB W S B T len f = false)) :
    Calls Try.prog 10 #[.agg #[.int .i64 W, .int .i64 S, .int .i64 B, .int .i64 T, .slice ad len cap]] w fun e w' => e = .returned (.bool true) ∧ Below w.heap.size w w' := by
  have B0 := Lib.hid (below_alloc w (.cells #[.int .i64 W, .int .i64 S, .int .i64 B, .int .i64 T, .slice ad len cap] 48))
  have C0 := Lib.hid (cfg_new w W S B T (.slice ad len cap))
  go_enter Try.func10, Try.ntmps10
  go_wp2_with fail
  generalize w.alloc (.cells #[.int .i64 W, .int .i64 S, .int .i64 B, .int .i64 T, .slice ad len cap] 48) = w0 at *
  refine (speaks4 _).mono ?_
  rintro e wa ⟨rfl, hb⟩
  have C1 := Lib.hid (cfg_next C0.out hb)
  have B1 := Lib.hid (below_after B0.out hb)
  clear hb C0
  obtain ⟨c0, c1, c2, c3, c4⟩ := cfg_cells C1.out
  go_wp2_with fail
  refine (rmay_any W S B T ad len cap f _ (hr.out.next B1.out) hl).mono ?_
  rintro e wb ⟨he, hb⟩
  have he' : e = .returned (.bool false) := by rw [he, hm.out]
  subst he'
  have B2 := Lib.hid (below_after B1.out hb)
  clear hb he
  go_wp2_with fail
  go_ret
  exact ⟨rfl, B2.out⟩

theorem bounds_walk (W S B T : Int) (ad : Option Addr) (len cap : Nat) (f : Nat → Int) (w : World) (hr : RowI w ad len f) (hl : len < 9223372036854775808) :
    Calls Try.prog 10 #[.agg #[.int .i64 W, .int .i64 S, .int .i64 B, .int .i64 T, .slice ad len cap]] w fun e w' => e = .returned (.bool true) ∧ Below w.heap.size w w' := by
  rcases h : mayB W S B T len f with _ | _
  · exact bounds_no W S B T ad len cap f w hr hl h
  · exact bounds_yes W S B T ad len cap f w hr hl h

end Go.Proofs.Ytnjgajkcoahefaa
