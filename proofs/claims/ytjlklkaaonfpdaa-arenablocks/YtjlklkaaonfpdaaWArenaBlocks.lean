/-
  The walk of the statement ArenaBlocks: of any class how many blocks a superblock has, where any of them begins, and which begins at any address, is the document's.
-/
import Derived.Test.YtjlklkaaonfpdaaQuiet5
import Derived.Test.YtjlklkaaonfpdaaWMaskParts
namespace Go.Proofs.Ytjlklkaaonfpdaa
open Go.RowKit Go.Sort

/-- Three numbers in a block. -/
def Tri5 (w : World) (N : Nat) (t : TypeId) (a b c : Int) : Prop := w.heap[N]? = some (.cells #[.int .i64 a, .int .i64 b, .int .i64 c] t (0, 0))
theorem Tri5.lt {w : World} {N : Nat} {t : TypeId} {a b c : Int} (h : Tri5 w N t a b c) : N < w.heap.size := (Array.getElem?_eq_some_iff.1 h).1
theorem Tri5.next {w w' : World} {N : Nat} {t : TypeId} {a b c : Int} (h : Tri5 w N t a b c) (hb : Below w.heap.size w w') : Tri5 w' N t a b c := (hb.block N h.lt).trans h
theorem Tri5.new (w : World) (t : TypeId) (a b c : Int) : Tri5 (w.alloc (.cells #[.int .i64 a, .int .i64 b, .int .i64 c] t)) w.heap.size t a b c := by
  show (w.heap.push _)[w.heap.size]? = _
  rw [Array.getElem?_push, if_pos rfl]
theorem Tri5.cells {w : World} {N : Nat} {t : TypeId} {a b c : Int} (h : Tri5 w N t a b c) : w.cell? ⟨N, 0, none⟩ = some (.int .i64 a) ∧ w.cell? ⟨N, 1, none⟩ = some (.int .i64 b) ∧ w.cell? ⟨N, 2, none⟩ = some (.int .i64 c) := by
  unfold Tri5 at h
  refine ⟨?_, ?_, ?_⟩ <;> simp [World.cell?, h]
theorem blkV_form (z a : Int) (b : Bool) : ∃ s i : Int, blkV z a b = .tuple #[.agg #[.int .i64 s, .int .i64 i], .bool b] := by
  cases b
  · exact ⟨0, 0, rfl⟩
  · exact ⟨_, _, rfl⟩
theorem rlow5 (R : Int) (w : World) (h0 : 0 ≤ R) (h1 : R ≤ 64) : Calls Try.prog 29 #[.int .i64 R] w fun e w' => e = .returned (.int .u64 (Ma.lowN R.toNat : Nat)) ∧ Below w.heap.size w w' := by
  have := rlow_any R w
  rw [least_all, Nat.min_eq_left (by omega)] at this
  exact this

set_option maxHeartbeats 1000000 in
theorem blocks5_no (W S B T : Int) (ad : Option Addr) (len cap : Nat) (f : Nat → Int) (k o0 o1 o2 : Int) (w : World) (hr : Hid (RowI w ad len f)) (hl : len < 9223372036854775808)  (hm : Hid (mayB W S B T len f = false)) :
    Calls Try.prog 4 #[.agg #[.int .i64 W, .int .i64 S, .int .i64 B, .int .i64 T, .slice ad len cap], .int .i64 k, .agg #[.int .i64 o0, .int .i64 o1, .int .i64 o2]] w fun e w' => e = .returned (.bool true) ∧ Below w.heap.size w w' := by
  have k0 : Ar w ((w.alloc (.cells #[.int .i64 W, .int .i64 S, .int .i64 B, .int .i64 T, .slice ad len cap] 24)).alloc (.cells #[.int .i64 o0, .int .i64 o1, .int .i64 o2] 32)) w.heap.size W S B T ad len cap f := (Ar.start hr.out).next (below_alloc _ _)
  have t0 := Tri5.new (w.alloc (.cells #[.int .i64 W, .int .i64 S, .int .i64 B, .int .i64 T, .slice ad len cap] 24)) 32 o0 o1 o2
  rw [show (w.alloc (.cells #[.int .i64 W, .int .i64 S, .int .i64 B, .int .i64 T, .slice ad len cap] 24)).heap.size = w.heap.size + 1 from by simp] at t0
  have K0 := Lib.hid k0
  have T0 := Lib.hid t0
  clear k0 t0
  go_enter Try.func4, Try.ntmps4
  go_wp2_with fail
  generalize (w.alloc (.cells #[.int .i64 W, .int .i64 S, .int .i64 B, .int .i64 T, .slice ad len cap] 24)).alloc (.cells #[.int .i64 o0, .int .i64 o1, .int .i64 o2] 32) = w0 at *
  generalize hN : w.heap.size = N at *
  refine (speaks5 _).mono ?_
  rintro e wa ⟨rfl, hb⟩
  have K1 := Lib.hid (K0.out.next hb)
  have T1 := Lib.hid (T0.out.next hb)
  clear hb K0 T0
  obtain ⟨c0, c1, c2, c3, c4⟩ := cfg_cells K1.out.c
  go_wp2_with fail
  refine (rmay_any W S B T ad len cap f _ K1.out.r hl).mono ?_
  rintro e wb ⟨he, hb⟩
  obtain rfl : e = .returned (.bool false) := by rw [he, hm.out]
  have K2 := Lib.hid (K1.out.next hb)
  have T2 := Lib.hid (T1.out.next hb)
  clear hb K1 T1 c0 c1 c2 c3 c4 he
  go_wp2_with fail
  go_ret
  exact ⟨rfl, by first | exact K2.out.b | (rw [hN]; exact K2.out.b)⟩

set_option maxHeartbeats 1000000 in
theorem blocks5_big (W S B T : Int) (ad : Option Addr) (len cap : Nat) (f : Nat → Int) (k o0 o1 o2 : Int) (w : World) (hr : Hid (RowI w ad len f)) (hl : len < 9223372036854775808) (h8 : 8 < S) (hm : Hid (mayB W S B T len f = true)) :
    Calls Try.prog 4 #[.agg #[.int .i64 W, .int .i64 S, .int .i64 B, .int .i64 T, .slice ad len cap], .int .i64 k, .agg #[.int .i64 o0, .int .i64 o1, .int .i64 o2]] w fun e w' => e = .returned (.bool true) ∧ Below w.heap.size w w' := by
  have k0 : Ar w ((w.alloc (.cells #[.int .i64 W, .int .i64 S, .int .i64 B, .int .i64 T, .slice ad len cap] 24)).alloc (.cells #[.int .i64 o0, .int .i64 o1, .int .i64 o2] 32)) w.heap.size W S B T ad len cap f := (Ar.start hr.out).next (below_alloc _ _)
  have t0 := Tri5.new (w.alloc (.cells #[.int .i64 W, .int .i64 S, .int .i64 B, .int .i64 T, .slice ad len cap] 24)) 32 o0 o1 o2
  rw [show (w.alloc (.cells #[.int .i64 W, .int .i64 S, .int .i64 B, .int .i64 T, .slice ad len cap] 24)).heap.size = w.heap.size + 1 from by simp] at t0
  have K0 := Lib.hid k0
  have T0 := Lib.hid t0
  clear k0 t0
  go_enter Try.func4, Try.ntmps4
  go_wp2_with fail
  generalize (w.alloc (.cells #[.int .i64 W, .int .i64 S, .int .i64 B, .int .i64 T, .slice ad len cap] 24)).alloc (.cells #[.int .i64 o0, .int .i64 o1, .int .i64 o2] 32) = w0 at *
  generalize hN : w.heap.size = N at *
  refine (speaks5 _).mono ?_
  rintro e wa ⟨rfl, hb⟩
  have K1 := Lib.hid (K0.out.next hb)
  have T1 := Lib.hid (T0.out.next hb)
  clear hb K0 T0
  obtain ⟨c0, c1, c2, c3, c4⟩ := cfg_cells K1.out.c
  go_wp2_with fail
  refine (rmay_any W S B T ad len cap f _ K1.out.r hl).mono ?_
  rintro e wb ⟨he, hb⟩
  obtain rfl : e = .returned (.bool true) := by rw [he, hm.out]
  have K2 := Lib.hid (K1.out.next hb)
  have T2 := Lib.hid (T1.out.next hb)
  clear hb K1 T1 c0 c1 c2 c3 c4 he
  obtain ⟨c0, c1, c2, c3, c4⟩ := cfg_cells K2.out.c
  have d8 : decide (8 < S) = true := by simpa using h8
  go_wp2_with fail
  go_ret
  exact ⟨rfl, by first | exact K2.out.b | (rw [hN]; exact K2.out.b)⟩

set_option maxRecDepth 20000 in
set_option maxHeartbeats 4000000 in
theorem blocks5_yes (W S B T : Int) (ad : Option Addr) (len cap : Nat) (f : Nat → Int) (k o0 o1 o2 : Int) (w : World) (hr : Hid (RowI w ad len f)) (hl : len < 9223372036854775808) (h8 : S ≤ 8) (hm : Hid (mayB W S B T len f = true)) :
    Calls Try.prog 4 #[.agg #[.int .i64 W, .int .i64 S, .int .i64 B, .int .i64 T, .slice ad len cap], .int .i64 k, .agg #[.int .i64 o0, .int .i64 o1, .int .i64 o2]] w fun e w' => e = .returned (.bool true) ∧ Below w.heap.size w w' := by
  have k0 : Ar w ((w.alloc (.cells #[.int .i64 W, .int .i64 S, .int .i64 B, .int .i64 T, .slice ad len cap] 24)).alloc (.cells #[.int .i64 o0, .int .i64 o1, .int .i64 o2] 32)) w.heap.size W S B T ad len cap f := (Ar.start hr.out).next (below_alloc _ _)
  have t0 := Tri5.new (w.alloc (.cells #[.int .i64 W, .int .i64 S, .int .i64 B, .int .i64 T, .slice ad len cap] 24)) 32 o0 o1 o2
  rw [show (w.alloc (.cells #[.int .i64 W, .int .i64 S, .int .i64 B, .int .i64 T, .slice ad len cap] 24)).heap.size = w.heap.size + 1 from by simp] at t0
  have K0 := Lib.hid k0
  have T0 := Lib.hid t0
  clear k0 t0
  go_enter Try.func4, Try.ntmps4
  go_wp2_with fail
  generalize (w.alloc (.cells #[.int .i64 W, .int .i64 S, .int .i64 B, .int .i64 T, .slice ad len cap] 24)).alloc (.cells #[.int .i64 o0, .int .i64 o1, .int .i64 o2] 32) = w0 at *
  generalize hN : w.heap.size = N at *
  refine (speaks5 _).mono ?_
  rintro e wa ⟨rfl, hb⟩
  have K1 := Lib.hid (K0.out.next hb)
  have T1 := Lib.hid (T0.out.next hb)
  clear hb K0 T0
  obtain ⟨c0, c1, c2, c3, c4⟩ := cfg_cells K1.out.c
  go_wp2_with fail
  refine (rmay_any W S B T ad len cap f _ K1.out.r hl).mono ?_
  rintro e wb ⟨he, hb⟩
  obtain rfl : e = .returned (.bool true) := by rw [he, hm.out]
  have K2 := Lib.hid (K1.out.next hb)
  have T2 := Lib.hid (T1.out.next hb)
  clear hb K1 T1 c0 c1 c2 c3 c4 he
  obtain ⟨⟨w1, w2⟩, ⟨s1, s2⟩, ⟨b1, b2⟩, ⟨t1, t2⟩, ⟨l1, l2⟩, hcls⟩ := may_nums hm.out
  have OK := Lib.hid (cls_ok hcls)
  clear hcls w1 w2 b1 b2 t1 t2
  obtain ⟨c0, c1, c2, c3, c4⟩ := cfg_cells K2.out.c
  have d8 : decide (8 < S) = false := by simp; omega
  have HBK := Lib.hid (fun w hr => block_any W S B T ad len cap f k o2 w hr OK (by omega) (by omega))
  have HRB := Lib.hid (fun w hr => rblock_any W S B T ad len cap f k o2 w hr OK (by omega) (by omega))
  have HAD := Lib.hid (fun w hr => address_any W S B T ad len cap f k o0 o1 w hr OK (by omega) (by omega))
  have HRA := Lib.hid (fun w hr => raddress_any W S B T ad len cap f k o0 o1 w hr OK (by omega) (by omega))
  have HCP := Lib.hid (fun w hr => cap_any W S B T ad len cap f k w hr OK)
  have HRC := Lib.hid (fun w hr => rcap_any W S B T ad len cap f k w hr OK)
  have HAL := Lib.hid (fun w hr => all5_any W S B T ad len cap f k w hr OK)
  obtain ⟨q0, q1⟩ := capI_bd (k := k) OK.out
  have HLO := Lib.hid (fun w => rlow5 (capI len f k) w q0 q1)
  obtain ⟨xs, xi, hx⟩ := blkV_form (szI len f k) o2 (blkB S len f k o2)
  rw [hx] at HBK HRB
  generalize blkB S len f k o2 = M at *
  generalize Ma.lowN (capI len f k).toNat = L at *
  generalize capI len f k = R at *
  generalize adrI S len f k o0 o1 = A at *
  clear hx
  obtain ⟨e0, e1, e2⟩ := T2.out.cells
  have lN := K2.out.lt
  have lN' : ¬ N = wb.heap.size := by omega
  have lM := T2.out.lt
  have lM' : ¬ N + 1 = wb.heap.size := by omega
  have hba := below_alloc wb (.cells #[.int .i64 o0, .int .i64 o1] 34)
  have D3 := Lib.hid (Two5.new wb 34 o0 o1)
  have K3 := Lib.hid (K2.out.next hba)
  have T3 := Lib.hid (T2.out.next hba)
  clear hba
  go_wp2_with fail
  generalize wb.alloc (.cells #[.int .i64 o0, .int .i64 o1] 34) = wc at *
  generalize wb.heap.size = nb at *
  clear K2 T2 c0 c1 c2 c3 c4 e0 e1 e2 lN lN' lM lM'
  refine (HBK.out _ K3.out.r).mono ?_
  rintro e wd ⟨rfl, hb⟩
  have K4 := Lib.hid (K3.out.next hb)
  have T4 := Lib.hid (T3.out.next hb)
  have D4 := Lib.hid (D3.out.next hb)
  clear hb K3 T3 D3
  obtain ⟨c0, c1, c2, c3, c4⟩ := cfg_cells K4.out.c
  obtain ⟨e0, e1, e2⟩ := T4.out.cells
  have lN := K4.out.lt
  have lN' : ¬ N = wd.heap.size := by omega
  have lM := T4.out.lt
  have lM' : ¬ N + 1 = wd.heap.size := by omega
  have hba := below_alloc wd (.cells #[.int .i64 xs, .int .i64 xi] 34)
  have X5 := Lib.hid (Two5.new wd 34 xs xi)
  have K5 := Lib.hid (K4.out.next hba)
  have T5 := Lib.hid (T4.out.next hba)
  have D5 := Lib.hid (D4.out.next hba)
  clear hba
  go_wp2_with fail
  generalize wd.alloc (.cells #[.int .i64 xs, .int .i64 xi] 34) = we at *
  generalize wd.heap.size = nx at *
  clear K4 T4 D4 c0 c1 c2 c3 c4 e0 e1 e2 lN lN' lM lM'
  refine (HRB.out _ K5.out.r).mono ?_
  rintro e wf ⟨rfl, hb⟩
  have K6 := Lib.hid (K5.out.next hb)
  have D6 := Lib.hid (D5.out.next hb)
  have X6 := Lib.hid (X5.out.next hb)
  clear hb K5 T5 D5 X5
  obtain ⟨c0, c1, c2, c3, c4⟩ := cfg_cells K6.out.c
  have lN := K6.out.lt
  have lN' : ¬ N = wf.heap.size := by omega
  have hba := below_alloc wf (.cells #[.int .i64 xs, .int .i64 xi] 34)
  have Y7 := Lib.hid (Two5.new wf 34 xs xi)
  have K7 := Lib.hid (K6.out.next hba)
  have D7 := Lib.hid (D6.out.next hba)
  have X7 := Lib.hid (X6.out.next hba)
  clear hba
  go_wp2_with fail
  generalize wf.alloc (.cells #[.int .i64 xs, .int .i64 xi] 34) = wg at *
  generalize wf.heap.size = ny at *
  clear K6 D6 X6 c0 c1 c2 c3 c4 lN lN'
  refine (HRC.out _ K7.out.r).mono ?_
  rintro e wh ⟨rfl, hb⟩
  have K8 := Lib.hid (K7.out.next hb)
  have D8 := Lib.hid (D7.out.next hb)
  have X8 := Lib.hid (X7.out.next hb)
  have Y8 := Lib.hid (Y7.out.next hb)
  clear hb K7 D7 X7 Y7
  go_wp2_with fail
  obtain ⟨c0, c1, c2, c3, c4⟩ := cfg_cells K8.out.c
  have k0 := cell_regrown c0
  have k1 := cell_regrown c1
  have k2 := cell_regrown c2
  have k3 := cell_regrown c3
  have k4 := cell_regrown c4
  obtain ⟨d0, d1⟩ := D8.out.cells
  obtain ⟨x0, x1⟩ := X8.out.cells
  obtain ⟨y0, y1⟩ := Y8.out.cells
  have k5 := cell_regrown d0
  have k6 := cell_regrown d1
  have k7 := cell_regrown x0
  have k8 := cell_regrown x1
  have k9 := cell_regrown y0
  have k10 := cell_regrown y1
  clear c0 c1 c2 c3 c4 d0 d1 x0 x1 y0 y1
  have a1 := fun d os => Calls.regrown_of (HAD.out (grow (redrawn wh d) os) (K8.out.grown d os).r)
  have a2 := fun d os => Calls.regrown_of (HRA.out (grow (redrawn wh d) os) (K8.out.grown d os).r)
  have a3 := fun d os => Calls.regrown_of (HCP.out (grow (redrawn wh d) os) (K8.out.grown d os).r)
  have a4 := fun d os => Calls.regrown_of (HAL.out (grow (redrawn wh d) os) (K8.out.grown d os).r)
  have a5 := fun d os => Calls.regrown_of (HLO.out (grow (redrawn wh d) os))
  refine wp_region_quiet_below (by kernel_rfl) (by kernel_rfl) ?_
  repeat (go_big_quiet_step (first | exact a1 _ _ | exact a2 _ _ | exact a3 _ _ | exact a4 _ _ | exact a5 _ _))
  refine wpQuiet_nil ?_
  intro _ hw'
  obtain ⟨⟨dq, osq⟩, hw''⟩ := hw'
  subst hw''
  have K9 := Lib.hid (K8.out.grown dq osq)
  generalize Sort.grow (redrawn wh dq) osq = wi at *
  clear k0 k1 k2 k3 k4 k5 k6 k7 k8 k9 k10 a1 a2 a3 a4 a5 K8
  go_wp2_with fail
  go_ret
  exact ⟨rfl, by first | exact K9.out.b | (rw [hN]; exact K9.out.b)⟩

theorem blocks5_walk (W S B T : Int) (ad : Option Addr) (len cap : Nat) (f : Nat → Int) (k o0 o1 o2 : Int) (w : World) (hr : RowI w ad len f) (hl : len < 9223372036854775808) :
    Calls Try.prog 4 #[.agg #[.int .i64 W, .int .i64 S, .int .i64 B, .int .i64 T, .slice ad len cap], .int .i64 k, .agg #[.int .i64 o0, .int .i64 o1, .int .i64 o2]] w fun e w' => e = .returned (.bool true) ∧ Below w.heap.size w w' := by
  rcases h : mayB W S B T len f with _ | _
  · exact blocks5_no W S B T ad len cap f k o0 o1 o2 w hr hl h
  · by_cases h8 : 8 < S
    · exact blocks5_big W S B T ad len cap f k o0 o1 o2 w hr hl h8 h
    · exact blocks5_yes W S B T ad len cap f k o0 o1 o2 w hr hl (by omega) h

end Go.Proofs.Ytjlklkaaonfpdaa
