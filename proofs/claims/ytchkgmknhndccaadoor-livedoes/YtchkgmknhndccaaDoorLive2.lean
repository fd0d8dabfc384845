/-
  Package live: a table's box; what a word stands for; which word is that of a grain.
-/
import Derived.Test.YtchkgmknhndccaaDoorLive1
namespace Go.Proofs.YtchkgmknhndccaaDoor
open Go.RowKit Go.Sort

theorem lget0 (x : Nat) : Ma.getN x 0 8 = x % 256 := by rw [Ma.getN_mod]; simp
theorem lget8 (x : Nat) : Ma.getN x 8 32 = x / 256 % 4294967296 := by rw [Ma.getN_mod]
/-- A table's box, and its classes. -/
structure Tb (w : World) (t g cb base : Nat) (W S B T : Int) (len : Nat) (f : Nat → Int) : Prop where
  box : w.heap[t]? = some (.cells #[.pointer (some ⟨g, 0, none⟩), .int .i64 (base : Nat), .int .i64 W, .int .i64 S, .int .i64 B, .int .i64 T, .slice (some ⟨cb, 0, none⟩) len len] 87 (0, 0))
  row : w.heap[cb]? = some (.cells (numsOf f len).toArray 3 (0, 0))
section
variable {w w' : World} {t g cb base : Nat} {W S B T : Int} {len : Nat} {f : Nat → Int}
theorem Tb.next (h : Tb w t g cb base W S B T len f) (hb : Below w.heap.size w w') : Tb w' t g cb base W S B T len f := ⟨(hb.block t (heap_lt h.box)).trans h.box, (hb.block cb (heap_lt h.row)).trans h.row⟩
theorem Tb.stay {q : List Nat} (h : Tb w t g cb base W S B T len f) (x : Only q w w') (h1 : t ∉ q) (h2 : cb ∉ q) : Tb w' t g cb base W S B T len f := ⟨x.at h.box h1, x.at h.row h2⟩
theorem Tb.r (h : Tb w t g cb base W S B T len f) : RowI w (some ⟨cb, 0, none⟩) len f := row_block h.row (by rw [List.take_of_length_le (by simp [numsOf])])
theorem Tb.cells (h : Tb w t g cb base W S B T len f) : w.cell? ⟨t, 0, none⟩ = some (.pointer (some ⟨g, 0, none⟩)) ∧ w.cell? ⟨t, 1, none⟩ = some (.int .i64 (base : Nat)) ∧ w.cell? ⟨t, 2, none⟩ = some (.int .i64 W) ∧ w.cell? ⟨t, 3, none⟩ = some (.int .i64 S) ∧ w.cell? ⟨t, 4, none⟩ = some (.int .i64 B) ∧ w.cell? ⟨t, 5, none⟩ = some (.int .i64 T) ∧ w.cell? ⟨t, 6, none⟩ = some (.slice (some ⟨cb, 0, none⟩) len len) :=
  ⟨by rw [cell_of h.box]; rfl, by rw [cell_of h.box]; rfl, by rw [cell_of h.box]; rfl, by rw [cell_of h.box]; rfl, by rw [cell_of h.box]; rfl, by rw [cell_of h.box]; rfl, by rw [cell_of h.box]; rfl⟩
end
set_option maxRecDepth 20000 in
set_option maxHeartbeats 4000000 in
theorem read_none (t g cb base : Nat) (W S B T : Int) (len : Nat) (f : Nat → Int)  (w : World) (hT : Hid (Tb w t g cb base W S B T len f)) (hF : Hid (FldL w))   :
    Calls Tryd.prog 37 #[.pointer (some ⟨t, 0, none⟩), .int .u64 0] w fun e w' => e = .returned (.tuple #[.agg #[.int .i64 0, .int .i64 0], .bool false]) ∧ Below w.heap.size w w' := by
  have GN : Hid (∀ w, Calls Tryd.prog 53 #[.agg #[.int .i64 8, .int .i64 32], .int .u64 0] w fun e w' => e = .returned (.int .u64 ((0 : Nat) : Int)) ∧ Below w.heap.size w w') := fun w => by
    have := get_yes 0 8 32 w (by omega) (by unfold okF; omega)
    rw [show Ma.getN 0 8 32 = 0 from by rw [lget8]; first | done | omega] at this
    exact this
  have GK : Hid (∀ w, Calls Tryd.prog 53 #[.agg #[.int .i64 0, .int .i64 8], .int .u64 0] w fun e w' => e = .returned (.int .u64 0) ∧ Below w.heap.size w w') := fun w => by
    have := get_yes 0 0 8 w (by omega) (by unfold okF; omega)
    rw [show Ma.getN 0 0 8 = 0 from by rw [lget0]; first | done | omega] at this
    exact this
  have hb0 := below_alloc w (.cells #[.int .i64 0, .int .i64 0] 35)
  have B0 := Lib.hid hb0
  have T0 := Lib.hid (hT.out.next hb0)
  have F0 := Lib.hid (hF.out.next hb0)
  have R0 := Lib.hid (Two5.new w 35 0 0)
  have l0 : w.heap.size < (w.alloc (.cells #[.int .i64 0, .int .i64 0] 35)).heap.size := by simp
  clear hb0
  go_enter Tryd.func37, Tryd.ntmps37
  go_upto_region 1 with fail
  generalize w.alloc (.cells #[.int .i64 0, .int .i64 0] 35) = w0 at *
  generalize hN : w.heap.size = N at *
  obtain ⟨c0, c1, c2, c3, c4, c5, c6⟩ := T0.out.cells
  have n0 := F0.out.n0
  have n1 := F0.out.n1
  have k0 := F0.out.k0
  have k1 := F0.out.k1
  obtain ⟨Ra, Rb⟩ := R0.out.cells
  have Ry := R0.out.fz 0
  have Rz := R0.out.fz 1
  go_wp2_with fail
  refine (GN.out _).mono ?_
  rintro e w1 ⟨rfl, hb⟩
  have B1 : Hid (Below N w w1) := B0.out.trans (hb.mono (Nat.le_of_lt l0))
  have l1 := Nat.lt_of_lt_of_le l0 hb.size
  have T1 := Lib.hid (T0.out.next hb)
  have F1 := Lib.hid (F0.out.next hb)
  have R1 := Lib.hid (R0.out.next hb)
  clear hb B0 T0 F0 R0 c0 c1 c2 c3 c4 c5 c6 n0 n1 k0 k1 Ra Rb Ry Rz
  obtain ⟨c0, c1, c2, c3, c4, c5, c6⟩ := T1.out.cells
  have n0 := F1.out.n0
  have n1 := F1.out.n1
  have k0 := F1.out.k0
  have k1 := F1.out.k1
  obtain ⟨Ra, Rb⟩ := R1.out.cells
  have Ry := R1.out.fz 0
  have Rz := R1.out.fz 1
  go_wp2_with fail
  refine (lof_any 0 _).mono ?_
  rintro e w2 ⟨rfl, hb⟩
  have B2 : Hid (Below N w w2) := B1.out.trans (hb.mono (Nat.le_of_lt l1))
  have l2 := Nat.lt_of_lt_of_le l1 hb.size
  have T2 := Lib.hid (T1.out.next hb)
  have F2 := Lib.hid (F1.out.next hb)
  have R2 := Lib.hid (R1.out.next hb)
  clear hb B1 T1 F1 R1 c0 c1 c2 c3 c4 c5 c6 n0 n1 k0 k1 Ra Rb Ry Rz
  obtain ⟨c0, c1, c2, c3, c4, c5, c6⟩ := T2.out.cells
  have n0 := F2.out.n0
  have n1 := F2.out.n1
  have k0 := F2.out.k0
  have k1 := F2.out.k1
  obtain ⟨Ra, Rb⟩ := R2.out.cells
  have Ry := R2.out.fz 0
  have Rz := R2.out.fz 1
  have hb := below_alloc w2 (.cells #[.int .i64 0, .int .i64 0] 35)
  have B3 : Hid (Below N w (w2.alloc (.cells #[.int .i64 0, .int .i64 0] 35))) := B2.out.trans (hb.mono (Nat.le_of_lt l2))
  have l3 := Nat.lt_of_lt_of_le l2 hb.size
  have T3 := Lib.hid (T2.out.next hb)
  have F3 := Lib.hid (F2.out.next hb)
  have R3 := Lib.hid (R2.out.next hb)
  have X3 := Lib.hid (Two5.new w2 35 0 0)
  have ne : ¬ N = w2.heap.size := by omega
  clear hb
  go_upto_region 3 with fail
  generalize w2.alloc (.cells #[.int .i64 0, .int .i64 0] 35) = w3 at *
  generalize hM : w2.heap.size = M at *
  clear B2 T2 F2 R2 l2 hM c0 c1 c2 c3 c4 c5 c6 n0 n1 k0 k1 Ra Rb Ry Rz
  obtain ⟨c0, c1, c2, c3, c4, c5, c6⟩ := T3.out.cells
  have n0 := F3.out.n0
  have n1 := F3.out.n1
  have k0 := F3.out.k0
  have k1 := F3.out.k1
  obtain ⟨Ra, Rb⟩ := R3.out.cells
  have Ry := R3.out.fz 0
  have Rz := R3.out.fz 1
  obtain ⟨Xa, Xb⟩ := X3.out.cells
  have Xy := X3.out.fz 0
  have Xz := X3.out.fz 1
  try go_wp2_with fail
  refine (GK.out _).mono ?_
  rintro e w4 ⟨rfl, hb⟩
  have B4 : Hid (Below N w w4) := B3.out.trans (hb.mono (Nat.le_of_lt l3))
  have l4 := Nat.lt_of_lt_of_le l3 hb.size
  have T4 := Lib.hid (T3.out.next hb)
  have F4 := Lib.hid (F3.out.next hb)
  have R4 := Lib.hid (R3.out.next hb)
  have X4 := Lib.hid (X3.out.next hb)
  clear hb B3 T3 F3 R3 X3 c0 c1 c2 c3 c4 c5 c6 n0 n1 k0 k1 Ra Rb Ry Rz Xa Xb Xy Xz
  obtain ⟨c0, c1, c2, c3, c4, c5, c6⟩ := T4.out.cells
  have n0 := F4.out.n0
  have n1 := F4.out.n1
  have k0 := F4.out.k0
  have k1 := F4.out.k1
  obtain ⟨Ra, Rb⟩ := R4.out.cells
  have Ry := R4.out.fz 0
  have Rz := R4.out.fz 1
  obtain ⟨Xa, Xb⟩ := X4.out.cells
  have Xy := X4.out.fz 0
  have Xz := X4.out.fz 1
  obtain ⟨r0, r1⟩ := (R4.out.set 0 0).cells
  go_wp2_with fail
  exact bodyPost_ret (v := .tuple #[.agg #[.int .i64 0, .int .i64 0], .bool false]) (by simp [results, Tryd.results37, go_sem, r0, r1]) rfl ⟨rfl, by first | exact (B4.out.setCell (Nat.le_refl _) _).setCell (Nat.le_refl _) _ | (rw [hN]; exact (B4.out.setCell (Nat.le_refl _) _).setCell (Nat.le_refl _) _)⟩
set_option maxRecDepth 20000 in
set_option maxHeartbeats 4000000 in
theorem read_of (t g cb base : Nat) (W S B T : Int) (len : Nat) (f : Nat → Int) (n : Nat) (w : World) (hT : Hid (Tb w t g cb base W S B T len f)) (hF : Hid (FldL w)) (hn : n < len) (hl : len ≤ 1000) (s1 : S ≤ 1000) (ok : Hid (ClsOk len f)) (X : Nat) (hX : Hid (1 + 256 * n = X)) :
    Calls Tryd.prog 37 #[.pointer (some ⟨t, 0, none⟩), .int .u64 (X : Nat)] w fun e w' => e = .returned (.tuple #[.agg #[.int .i64 (n : Nat), .int .i64 0], .bool true]) ∧ Below w.heap.size w w' := by
  have hx := hX.out
  have GN : Hid (∀ w, Calls Tryd.prog 53 #[.agg #[.int .i64 8, .int .i64 32], .int .u64 (X : Nat)] w fun e w' => e = .returned (.int .u64 ((n : Nat) : Int)) ∧ Below w.heap.size w w') := fun w => by
    have := get_yes X 8 32 w (by omega) (by unfold okF; omega)
    rw [show Ma.getN X 8 32 = n from by rw [lget8]; first | done | omega] at this
    exact this
  have GK : Hid (∀ w, Calls Tryd.prog 53 #[.agg #[.int .i64 0, .int .i64 8], .int .u64 (X : Nat)] w fun e w' => e = .returned (.int .u64 1) ∧ Below w.heap.size w w') := fun w => by
    have := get_yes X 0 8 w (by omega) (by unfold okF; omega)
    rw [show Ma.getN X 0 8 = 1 from by rw [lget0]; first | done | omega] at this
    exact this
  have hT' := hT
  have SZ : Hid (∀ w', RowI w' (some ⟨cb, 0, none⟩) len f → Calls Tryd.prog 22 #[.agg #[.int .i64 (n : Nat), .int .i64 0], .agg #[.int .i64 W, .int .i64 S, .int .i64 B, .int .i64 T, .slice (some ⟨cb, 0, none⟩) len len]] w' fun e w2 => e = .returned (.int .i64 (szT S len f (n : Nat) 0)) ∧ Below w'.heap.size w' w2) := fun w' hr => tsize_any W S B T _ len len f (n : Nat) 0 w' (Lib.hid hr) s1
  have ZN : Hid ((szT S len f (n : Nat) 0 == 0) = false) := by
    have hz := (szT_zero (S := S) (x := (n : Nat)) (y := 0) ok.out)
    show _ = _
    rw [beq_eq_false_iff_ne]
    intro e
    exact hz.1 e (.inr ⟨rfl, by omega, by omega⟩)
  have WD : Hid (∀ w', FldL w' → Calls Tryd.prog 36 #[.agg #[.int .i64 (n : Nat), .int .i64 0]] w' fun e w2 => e = .returned (.int .u64 (X : Nat)) ∧ Below w'.heap.size w' w2) := fun w' h => by
    have := lword_of n w' (by omega) (Lib.hid h)
    rw [show 1 + 256 * n = X from hX.out] at this
    exact this
  generalize szT S len f (n : Nat) 0 = V at *
  have V0 := ZN.out
  have i1 := Ma.i64_wrap_nat n (by omega)
  have hb0 := below_alloc w (.cells #[.int .i64 0, .int .i64 0] 35)
  have B0 := Lib.hid hb0
  have T0 := Lib.hid (hT.out.next hb0)
  have F0 := Lib.hid (hF.out.next hb0)
  have R0 := Lib.hid (Two5.new w 35 0 0)
  have l0 : w.heap.size < (w.alloc (.cells #[.int .i64 0, .int .i64 0] 35)).heap.size := by simp
  clear hb0
  go_enter Tryd.func37, Tryd.ntmps37
  go_upto_region 1 with fail
  generalize w.alloc (.cells #[.int .i64 0, .int .i64 0] 35) = w0 at *
  generalize hN : w.heap.size = N at *
  obtain ⟨c0, c1, c2, c3, c4, c5, c6⟩ := T0.out.cells
  have n0 := F0.out.n0
  have n1 := F0.out.n1
  have k0 := F0.out.k0
  have k1 := F0.out.k1
  obtain ⟨Ra, Rb⟩ := R0.out.cells
  have Ry := R0.out.fz 0
  have Rz := R0.out.fz 1
  go_wp2_with fail
  refine (GN.out _).mono ?_
  rintro e w1 ⟨rfl, hb⟩
  have B1 : Hid (Below N w w1) := B0.out.trans (hb.mono (Nat.le_of_lt l0))
  have l1 := Nat.lt_of_lt_of_le l0 hb.size
  have T1 := Lib.hid (T0.out.next hb)
  have F1 := Lib.hid (F0.out.next hb)
  have R1 := Lib.hid (R0.out.next hb)
  clear hb B0 T0 F0 R0 c0 c1 c2 c3 c4 c5 c6 n0 n1 k0 k1 Ra Rb Ry Rz
  obtain ⟨c0, c1, c2, c3, c4, c5, c6⟩ := T1.out.cells
  have n0 := F1.out.n0
  have n1 := F1.out.n1
  have k0 := F1.out.k0
  have k1 := F1.out.k1
  obtain ⟨Ra, Rb⟩ := R1.out.cells
  have Ry := R1.out.fz 0
  have Rz := R1.out.fz 1
  go_wp2_with fail
  refine (lof_any ((n : Nat) : Int) _).mono ?_
  rintro e w2 ⟨rfl, hb⟩
  have B2 : Hid (Below N w w2) := B1.out.trans (hb.mono (Nat.le_of_lt l1))
  have l2 := Nat.lt_of_lt_of_le l1 hb.size
  have T2 := Lib.hid (T1.out.next hb)
  have F2 := Lib.hid (F1.out.next hb)
  have R2 := Lib.hid (R1.out.next hb)
  clear hb B1 T1 F1 R1 c0 c1 c2 c3 c4 c5 c6 n0 n1 k0 k1 Ra Rb Ry Rz
  obtain ⟨c0, c1, c2, c3, c4, c5, c6⟩ := T2.out.cells
  have n0 := F2.out.n0
  have n1 := F2.out.n1
  have k0 := F2.out.k0
  have k1 := F2.out.k1
  obtain ⟨Ra, Rb⟩ := R2.out.cells
  have Ry := R2.out.fz 0
  have Rz := R2.out.fz 1
  have hb := below_alloc w2 (.cells #[.int .i64 ((n : Nat) : Int), .int .i64 0] 35)
  have B3 : Hid (Below N w (w2.alloc (.cells #[.int .i64 ((n : Nat) : Int), .int .i64 0] 35))) := B2.out.trans (hb.mono (Nat.le_of_lt l2))
  have l3 := Nat.lt_of_lt_of_le l2 hb.size
  have T3 := Lib.hid (T2.out.next hb)
  have F3 := Lib.hid (F2.out.next hb)
  have R3 := Lib.hid (R2.out.next hb)
  have X3 := Lib.hid (Two5.new w2 35 ((n : Nat) : Int) 0)
  have ne : ¬ N = w2.heap.size := by omega
  clear hb
  go_upto_region 3 with fail
  generalize w2.alloc (.cells #[.int .i64 ((n : Nat) : Int), .int .i64 0] 35) = w3 at *
  generalize hM : w2.heap.size = M at *
  clear B2 T2 F2 R2 l2 hM c0 c1 c2 c3 c4 c5 c6 n0 n1 k0 k1 Ra Rb Ry Rz
  obtain ⟨c0, c1, c2, c3, c4, c5, c6⟩ := T3.out.cells
  have n0 := F3.out.n0
  have n1 := F3.out.n1
  have k0 := F3.out.k0
  have k1 := F3.out.k1
  obtain ⟨Ra, Rb⟩ := R3.out.cells
  have Ry := R3.out.fz 0
  have Rz := R3.out.fz 1
  obtain ⟨Xa, Xb⟩ := X3.out.cells
  have Xy := X3.out.fz 0
  have Xz := X3.out.fz 1
  try go_wp2_with fail
  refine (GK.out _).mono ?_
  rintro e w4 ⟨rfl, hb⟩
  have B4 : Hid (Below N w w4) := B3.out.trans (hb.mono (Nat.le_of_lt l3))
  have l4 := Nat.lt_of_lt_of_le l3 hb.size
  have T4 := Lib.hid (T3.out.next hb)
  have F4 := Lib.hid (F3.out.next hb)
  have R4 := Lib.hid (R3.out.next hb)
  have X4 := Lib.hid (X3.out.next hb)
  clear hb B3 T3 F3 R3 X3 c0 c1 c2 c3 c4 c5 c6 n0 n1 k0 k1 Ra Rb Ry Rz Xa Xb Xy Xz
  obtain ⟨c0, c1, c2, c3, c4, c5, c6⟩ := T4.out.cells
  have n0 := F4.out.n0
  have n1 := F4.out.n1
  have k0 := F4.out.k0
  have k1 := F4.out.k1
  obtain ⟨Ra, Rb⟩ := R4.out.cells
  have Ry := R4.out.fz 0
  have Rz := R4.out.fz 1
  obtain ⟨Xa, Xb⟩ := X4.out.cells
  have Xy := X4.out.fz 0
  have Xz := X4.out.fz 1
  go_wp2_with fail
  have kc0 := cell_regrown c0
  have kc1 := cell_regrown c1
  have kc2 := cell_regrown c2
  have kc3 := cell_regrown c3
  have kc4 := cell_regrown c4
  have kc5 := cell_regrown c5
  have kc6 := cell_regrown c6
  have kn0 := cell_regrown n0
  have kn1 := cell_regrown n1
  have kk0 := cell_regrown k0
  have kk1 := cell_regrown k1
  have kXa := cell_regrown Xa
  have kXb := cell_regrown Xb
  clear c0 c1 c2 c3 c4 c5 c6 n0 n1 k0 k1 Ra Rb Ry Rz Xa Xb Xy Xz
  have a0 := fun d os => Calls.regrown_of (SZ.out (grow (redrawn w4 d) os) ((T4.out.next (below_regrown w4 d os)).r))
  have a1 := fun d os => Calls.regrown_of (WD.out (grow (redrawn w4 d) os) (F4.out.next (below_regrown w4 d os)))
  refine wp_region_quiet_below (by kernel_rfl) (by kernel_rfl) ?_
  repeat (go_big_quiet_step (first | with_reducible exact a0 _ _ | with_reducible exact a1 _ _))
  refine wpQuiet_nil ?_
  intro _ hw'
  obtain ⟨⟨dq, osq⟩, hw''⟩ := hw'
  subst hw''
  have hb := below_regrown w4 dq osq
  have B5 : Hid (Below N w (grow (redrawn w4 dq) osq)) := B4.out.trans (hb.mono (Nat.le_of_lt l4))
  have l5 := Nat.lt_of_lt_of_le l4 hb.size
  have R5 := Lib.hid (R4.out.next hb)
  have X5 := Lib.hid (X4.out.next hb)
  generalize Sort.grow (redrawn w4 dq) osq = w5 at *
  clear hb kc0 kc1 kc2 kc3 kc4 kc5 kc6 kn0 kn1 kk0 kk1 kXa kXb a0 a1
  obtain ⟨Ra, Rb⟩ := R5.out.cells
  have Ry := R5.out.fz 0
  have Rz := R5.out.fz 1
  obtain ⟨Xa, Xb⟩ := X5.out.cells
  obtain ⟨r0, r1⟩ := (R5.out.set ((n : Nat) : Int) 0).cells
  go_wp2_with fail
  exact bodyPost_ret (v := .tuple #[.agg #[.int .i64 (n : Nat), .int .i64 0], .bool true]) (by simp [results, Tryd.results37, go_sem, r0, r1]) rfl ⟨rfl, by first | exact (B5.out.setCell (Nat.le_refl _) _).setCell (Nat.le_refl _) _ | (rw [hN]; exact (B5.out.setCell (Nat.le_refl _) _).setCell (Nat.le_refl _) _)⟩
set_option maxRecDepth 20000 in
set_option maxHeartbeats 4000000 in
theorem read_run (t g cb base : Nat) (W S B T : Int) (len : Nat) (f : Nat → Int) (n : Nat) (w : World) (hT : Hid (Tb w t g cb base W S B T len f)) (hF : Hid (FldL w)) (h1 : 1 ≤ n) (h2 : (n : Int) ≤ S) (s1 : S ≤ 1000) (ok : Hid (ClsOk len f)) (X : Nat) (hX : Hid (2 + 256 * n = X)) :
    Calls Tryd.prog 37 #[.pointer (some ⟨t, 0, none⟩), .int .u64 (X : Nat)] w fun e w' => e = .returned (.tuple #[.agg #[.int .i64 (-1), .int .i64 (n : Nat)], .bool true]) ∧ Below w.heap.size w w' := by
  have hx := hX.out
  have GN : Hid (∀ w, Calls Tryd.prog 53 #[.agg #[.int .i64 8, .int .i64 32], .int .u64 (X : Nat)] w fun e w' => e = .returned (.int .u64 ((n : Nat) : Int)) ∧ Below w.heap.size w w') := fun w => by
    have := get_yes X 8 32 w (by omega) (by unfold okF; omega)
    rw [show Ma.getN X 8 32 = n from by rw [lget8]; first | done | omega] at this
    exact this
  have GK : Hid (∀ w, Calls Tryd.prog 53 #[.agg #[.int .i64 0, .int .i64 8], .int .u64 (X : Nat)] w fun e w' => e = .returned (.int .u64 2) ∧ Below w.heap.size w w') := fun w => by
    have := get_yes X 0 8 w (by omega) (by unfold okF; omega)
    rw [show Ma.getN X 0 8 = 2 from by rw [lget0]; first | done | omega] at this
    exact this
  have hT' := hT
  have SZ : Hid (∀ w', RowI w' (some ⟨cb, 0, none⟩) len f → Calls Tryd.prog 22 #[.agg #[.int .i64 (-1), .int .i64 (n : Nat)], .agg #[.int .i64 W, .int .i64 S, .int .i64 B, .int .i64 T, .slice (some ⟨cb, 0, none⟩) len len]] w' fun e w2 => e = .returned (.int .i64 (szT S len f (-1) (n : Nat))) ∧ Below w'.heap.size w' w2) := fun w' hr => tsize_any W S B T _ len len f (-1) (n : Nat) w' (Lib.hid hr) s1
  have ZN : Hid ((szT S len f (-1) (n : Nat) == 0) = false) := by
    have hz := (szT_zero (S := S) (x := (-1)) (y := (n : Nat)) ok.out)
    show _ = _
    rw [beq_eq_false_iff_ne]
    intro e
    exact hz.1 e (.inl ⟨rfl, by omega, by omega⟩)
  have WD : Hid (∀ w', FldL w' → Calls Tryd.prog 36 #[.agg #[.int .i64 (-1), .int .i64 (n : Nat)]] w' fun e w2 => e = .returned (.int .u64 (X : Nat)) ∧ Below w'.heap.size w' w2) := fun w' h => by
    have := lword_run n w' (by omega) (Lib.hid h)
    rw [show 2 + 256 * n = X from hX.out] at this
    exact this
  generalize szT S len f (-1) (n : Nat) = V at *
  have V0 := ZN.out
  have i1 := Ma.i64_wrap_nat n (by omega)
  have hb0 := below_alloc w (.cells #[.int .i64 0, .int .i64 0] 35)
  have B0 := Lib.hid hb0
  have T0 := Lib.hid (hT.out.next hb0)
  have F0 := Lib.hid (hF.out.next hb0)
  have R0 := Lib.hid (Two5.new w 35 0 0)
  have l0 : w.heap.size < (w.alloc (.cells #[.int .i64 0, .int .i64 0] 35)).heap.size := by simp
  clear hb0
  go_enter Tryd.func37, Tryd.ntmps37
  go_upto_region 1 with fail
  generalize w.alloc (.cells #[.int .i64 0, .int .i64 0] 35) = w0 at *
  generalize hN : w.heap.size = N at *
  obtain ⟨c0, c1, c2, c3, c4, c5, c6⟩ := T0.out.cells
  have n0 := F0.out.n0
  have n1 := F0.out.n1
  have k0 := F0.out.k0
  have k1 := F0.out.k1
  obtain ⟨Ra, Rb⟩ := R0.out.cells
  have Ry := R0.out.fz 0
  have Rz := R0.out.fz 1
  go_wp2_with fail
  refine (GN.out _).mono ?_
  rintro e w1 ⟨rfl, hb⟩
  have B1 : Hid (Below N w w1) := B0.out.trans (hb.mono (Nat.le_of_lt l0))
  have l1 := Nat.lt_of_lt_of_le l0 hb.size
  have T1 := Lib.hid (T0.out.next hb)
  have F1 := Lib.hid (F0.out.next hb)
  have R1 := Lib.hid (R0.out.next hb)
  clear hb B0 T0 F0 R0 c0 c1 c2 c3 c4 c5 c6 n0 n1 k0 k1 Ra Rb Ry Rz
  obtain ⟨c0, c1, c2, c3, c4, c5, c6⟩ := T1.out.cells
  have n0 := F1.out.n0
  have n1 := F1.out.n1
  have k0 := F1.out.k0
  have k1 := F1.out.k1
  obtain ⟨Ra, Rb⟩ := R1.out.cells
  have Ry := R1.out.fz 0
  have Rz := R1.out.fz 1
  go_wp2_with fail
  refine (lof_any ((n : Nat) : Int) _).mono ?_
  rintro e w2 ⟨rfl, hb⟩
  have B2 : Hid (Below N w w2) := B1.out.trans (hb.mono (Nat.le_of_lt l1))
  have l2 := Nat.lt_of_lt_of_le l1 hb.size
  have T2 := Lib.hid (T1.out.next hb)
  have F2 := Lib.hid (F1.out.next hb)
  have R2 := Lib.hid (R1.out.next hb)
  clear hb B1 T1 F1 R1 c0 c1 c2 c3 c4 c5 c6 n0 n1 k0 k1 Ra Rb Ry Rz
  obtain ⟨c0, c1, c2, c3, c4, c5, c6⟩ := T2.out.cells
  have n0 := F2.out.n0
  have n1 := F2.out.n1
  have k0 := F2.out.k0
  have k1 := F2.out.k1
  obtain ⟨Ra, Rb⟩ := R2.out.cells
  have Ry := R2.out.fz 0
  have Rz := R2.out.fz 1
  have hb := below_alloc w2 (.cells #[.int .i64 ((n : Nat) : Int), .int .i64 0] 35)
  have B3 : Hid (Below N w (w2.alloc (.cells #[.int .i64 ((n : Nat) : Int), .int .i64 0] 35))) := B2.out.trans (hb.mono (Nat.le_of_lt l2))
  have l3 := Nat.lt_of_lt_of_le l2 hb.size
  have T3 := Lib.hid (T2.out.next hb)
  have F3 := Lib.hid (F2.out.next hb)
  have R3 := Lib.hid (R2.out.next hb)
  have X3 := Lib.hid (Two5.new w2 35 ((n : Nat) : Int) 0)
  have ne : ¬ N = w2.heap.size := by omega
  clear hb
  go_upto_region 3 with fail
  generalize w2.alloc (.cells #[.int .i64 ((n : Nat) : Int), .int .i64 0] 35) = w3 at *
  have tM : ¬ t = w2.heap.size := by have := heap_lt T2.out.box; omega
  have cM : ¬ cb = w2.heap.size := by have := heap_lt T2.out.row; omega
  have Mne : N ≤ w2.heap.size := Nat.le_of_lt l2
  generalize hM : w2.heap.size = M at *
  clear B2 T2 F2 R2 l2 hM c0 c1 c2 c3 c4 c5 c6 n0 n1 k0 k1 Ra Rb Ry Rz
  obtain ⟨c0, c1, c2, c3, c4, c5, c6⟩ := T3.out.cells
  have n0 := F3.out.n0
  have n1 := F3.out.n1
  have k0 := F3.out.k0
  have k1 := F3.out.k1
  obtain ⟨Ra, Rb⟩ := R3.out.cells
  have Ry := R3.out.fz 0
  have Rz := R3.out.fz 1
  obtain ⟨Xa, Xb⟩ := X3.out.cells
  have Xy := X3.out.fz 0
  have Xz := X3.out.fz 1
  try go_wp2_with fail
  refine (GK.out _).mono ?_
  rintro e w4 ⟨rfl, hb⟩
  have B4 : Hid (Below N w w4) := B3.out.trans (hb.mono (Nat.le_of_lt l3))
  have l4 := Nat.lt_of_lt_of_le l3 hb.size
  have T4 := Lib.hid (T3.out.next hb)
  have F4 := Lib.hid (F3.out.next hb)
  have R4 := Lib.hid (R3.out.next hb)
  have X4 := Lib.hid (X3.out.next hb)
  clear hb B3 T3 F3 R3 X3 c0 c1 c2 c3 c4 c5 c6 n0 n1 k0 k1 Ra Rb Ry Rz Xa Xb Xy Xz
  obtain ⟨c0, c1, c2, c3, c4, c5, c6⟩ := T4.out.cells
  have n0 := F4.out.n0
  have n1 := F4.out.n1
  have k0 := F4.out.k0
  have k1 := F4.out.k1
  obtain ⟨Ra, Rb⟩ := R4.out.cells
  have Ry := R4.out.fz 0
  have Rz := R4.out.fz 1
  obtain ⟨Xa, Xb⟩ := X4.out.cells
  have Xy := X4.out.fz 0
  have Xz := X4.out.fz 1
  go_wp2_with fail
  refine (lrun_any ((n : Nat) : Int) _).mono ?_
  rintro e w5 ⟨rfl, hb⟩
  have B5 : Hid (Below N w w5) := B4.out.trans (hb.mono (Nat.le_of_lt l4))
  have l5 := Nat.lt_of_lt_of_le l4 hb.size
  have T5 := Lib.hid (T4.out.next hb)
  have F5 := Lib.hid (F4.out.next hb)
  have R5 := Lib.hid (R4.out.next hb)
  have X5 := Lib.hid (X4.out.next hb)
  clear hb B4 T4 F4 R4 X4 c0 c1 c2 c3 c4 c5 c6 n0 n1 k0 k1 Ra Rb Ry Rz Xa Xb Xy Xz
  obtain ⟨c0, c1, c2, c3, c4, c5, c6⟩ := T5.out.cells
  have n0 := F5.out.n0
  have n1 := F5.out.n1
  have k0 := F5.out.k0
  have k1 := F5.out.k1
  obtain ⟨Ra, Rb⟩ := R5.out.cells
  have Ry := R5.out.fz 0
  have Rz := R5.out.fz 1
  obtain ⟨Xa, Xb⟩ := X5.out.cells
  have Xy := X5.out.fz 0
  have Xz := X5.out.fz 1
  have OX : Hid (Only [M] w5 ((w5.setCell ⟨M, 0, none⟩ (.int .i64 (-1))).setCell ⟨M, 1, none⟩ (.int .i64 (n : Nat)))) := (Only.of_set (l := [M]) (g := M) (j := 0) (by simp) _).trans (Only.of_set (g := M) (j := 1) (by simp) _)
  have X6 := Lib.hid (X5.out.set (-1) (n : Nat))
  have mM : M < w5.heap.size := X5.out.lt
  have B6 : Hid (Below N w ((w5.setCell ⟨M, 0, none⟩ (.int .i64 (-1))).setCell ⟨M, 1, none⟩ (.int .i64 (n : Nat)))) := B5.out.trans (OX.out.below (by simp; exact Mne) (Nat.le_of_lt l5))
  have l6 : N < ((w5.setCell ⟨M, 0, none⟩ (.int .i64 (-1))).setCell ⟨M, 1, none⟩ (.int .i64 (n : Nat))).heap.size := Nat.lt_of_lt_of_le l5 OX.out.size
  have T6 := Lib.hid (T5.out.stay OX.out (by simp; exact tM) (by simp; exact cM))
  have F6 := Lib.hid (F5.out.stay OX.out hF.out (by simp; omega))
  have R6 : Hid (Two5 ((w5.setCell ⟨M, 0, none⟩ (.int .i64 (-1))).setCell ⟨M, 1, none⟩ (.int .i64 (n : Nat))) N 35 0 0) := OX.out.at R5.out (by simp; omega)
  go_wp2_with fail
  generalize (w5.setCell ⟨M, 0, none⟩ (.int .i64 (-1))).setCell ⟨M, 1, none⟩ (.int .i64 (n : Nat)) = w6 at *
  clear B5 T5 F5 R5 X5 l5 OX c0 c1 c2 c3 c4 c5 c6 n0 n1 k0 k1 Ra Rb Ry Rz Xa Xb Xy Xz
  obtain ⟨c0, c1, c2, c3, c4, c5, c6⟩ := T6.out.cells
  have n0 := F6.out.n0
  have n1 := F6.out.n1
  have k0 := F6.out.k0
  have k1 := F6.out.k1
  obtain ⟨Ra, Rb⟩ := R6.out.cells
  have Ry := R6.out.fz 0
  have Rz := R6.out.fz 1
  obtain ⟨Xa, Xb⟩ := X6.out.cells
  have Xy := X6.out.fz 0
  have Xz := X6.out.fz 1
  have kc0 := cell_regrown c0
  have kc1 := cell_regrown c1
  have kc2 := cell_regrown c2
  have kc3 := cell_regrown c3
  have kc4 := cell_regrown c4
  have kc5 := cell_regrown c5
  have kc6 := cell_regrown c6
  have kn0 := cell_regrown n0
  have kn1 := cell_regrown n1
  have kk0 := cell_regrown k0
  have kk1 := cell_regrown k1
  have kXa := cell_regrown Xa
  have kXb := cell_regrown Xb
  clear c0 c1 c2 c3 c4 c5 c6 n0 n1 k0 k1 Ra Rb Ry Rz Xa Xb Xy Xz
  have a0 := fun d os => Calls.regrown_of (SZ.out (grow (redrawn w6 d) os) ((T6.out.next (below_regrown w6 d os)).r))
  have a1 := fun d os => Calls.regrown_of (WD.out (grow (redrawn w6 d) os) (F6.out.next (below_regrown w6 d os)))
  refine wp_region_quiet_below (by kernel_rfl) (by kernel_rfl) ?_
  repeat (go_big_quiet_step (first | with_reducible exact a0 _ _ | with_reducible exact a1 _ _))
  refine wpQuiet_nil ?_
  intro _ hw'
  obtain ⟨⟨dq, osq⟩, hw''⟩ := hw'
  subst hw''
  have hb := below_regrown w6 dq osq
  have B7 : Hid (Below N w (grow (redrawn w6 dq) osq)) := B6.out.trans (hb.mono (Nat.le_of_lt l6))
  have l7 := Nat.lt_of_lt_of_le l6 hb.size
  have R7 := Lib.hid (R6.out.next hb)
  have X7 := Lib.hid (X6.out.next hb)
  generalize Sort.grow (redrawn w6 dq) osq = w7 at *
  clear hb kc0 kc1 kc2 kc3 kc4 kc5 kc6 kn0 kn1 kk0 kk1 kXa kXb a0 a1
  obtain ⟨Ra, Rb⟩ := R7.out.cells
  have Ry := R7.out.fz 0
  have Rz := R7.out.fz 1
  obtain ⟨Xa, Xb⟩ := X7.out.cells
  obtain ⟨r0, r1⟩ := (R7.out.set (-1) (n : Nat)).cells
  go_wp2_with fail
  exact bodyPost_ret (v := .tuple #[.agg #[.int .i64 (-1), .int .i64 (n : Nat)], .bool true]) (by simp [results, Tryd.results37, go_sem, r0, r1]) rfl ⟨rfl, by first | exact (B7.out.setCell (Nat.le_refl _) _).setCell (Nat.le_refl _) _ | (rw [hN]; exact (B7.out.setCell (Nat.le_refl _) _).setCell (Nat.le_refl _) _)⟩
/-- Which word is that of a grain; an address at which none begins has none. -/
theorem lplace_yes (t g cb base : Nat) (W S B T : Int) (len : Nat) (f : Nat → Int) (a : Int) (j : Nat) (w : World) (hT : Hid (Tb w t g cb base W S B T len f)) (s0 : 0 ≤ S) (s1 : S ≤ 1000) (hj : (j : Int) < 64 * S) (ha : Hid (a = 65536 + 16 * (j : Int))) (hb0 : base ≤ 16777216) :
    Calls Tryd.prog 34 #[.pointer (some ⟨t, 0, none⟩), .int .i64 a] w fun e w' => e = .returned (.tuple #[.int .i64 ((base + j : Nat) : Int), .bool true]) ∧ Below w.heap.size w w' := by
  obtain ⟨c0, c1, c2, c3, c4, c5, c6⟩ := hT.out.cells
  have PL := Lib.hid fun w => place_yes W S B T (.slice (some ⟨cb, 0, none⟩) len len) a w s0 s1 (by have := ha.out; omega) (by have := ha.out; omega) (by have := ha.out; omega)
  have q1 : (a - 65536) / 16 / 64 = ((j / 64 : Nat) : Int) := by have := ha.out; omega
  have q2 : (a - 65536) / 16 % 64 = ((j % 64 : Nat) : Int) := by have := ha.out; omega
  rw [q1, q2] at PL
  have HE : Hid ((base : Int) + ((j / 64 : Nat) : Int) * 64 + ((j % 64 : Nat) : Int) = ((base + j : Nat) : Int)) := by show _ = _; omega
  have z1 : j / 64 ≤ 1000 := by omega
  have z2 : j % 64 < 64 := by omega
  clear q1 q2
  generalize j / 64 = p at *
  generalize j % 64 = r at *
  go_enter Tryd.func34, Tryd.ntmps34
  go_wp2_with fail
  refine (PL.out _).mono ?_
  rintro e w1 ⟨rfl, hb⟩
  have B1 := Lib.hid hb
  have T1 := Lib.hid (hT.out.next hb)
  clear hb c0 c1 c2 c3 c4 c5 c6
  obtain ⟨c0, c1, c2, c3, c4, c5, c6⟩ := T1.out.cells
  go_wp2_with fail
  go_ret2
  exact ⟨ret2_eq (vint_eq HE.out) rfl, B1.out⟩
theorem lplace_no (t g cb base : Nat) (W S B T : Int) (len : Nat) (f : Nat → Int) (a : Int) (w : World) (hT : Hid (Tb w t g cb base W S B T len f)) (s0 : 0 ≤ S) (s1 : S ≤ 1000) (ha : Hid (a < 65536 ∨ 65536 + 1024 * S ≤ a ∨ a % 16 ≠ 0)) :
    Calls Tryd.prog 34 #[.pointer (some ⟨t, 0, none⟩), .int .i64 a] w fun e w' => e = .returned (.tuple #[.int .i64 0, .bool false]) ∧ Below w.heap.size w w' := by
  obtain ⟨c0, c1, c2, c3, c4, c5, c6⟩ := hT.out.cells
  go_enter Tryd.func34, Tryd.ntmps34
  go_wp2_with fail
  refine (place_no W S B T _ a _ s0 s1 ha.out).mono ?_
  rintro e w1 ⟨rfl, hb⟩
  have B1 := Lib.hid hb
  clear hb c0 c1 c2 c3 c4 c5 c6
  go_wp2_with fail
  go_ret2
  exact ⟨rfl, B1.out⟩
end Go.Proofs.YtchkgmknhndccaaDoor
