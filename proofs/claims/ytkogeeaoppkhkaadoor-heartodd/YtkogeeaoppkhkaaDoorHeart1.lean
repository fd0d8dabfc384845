/-
  Package heart: a kind and a number in one word; what is asked.
-/
import Derived.Test.YtkogeeaoppkhkaaDoorHeartP
import Derived.Test.YtkogeeaoppkhkaaDoorWord1
import Derived.Test.YtkogeeaoppkhkaaDoorMaskM
import Derived.Test.YtkogeeaoppkhkaaDoorMemM
import Derived.Lib.QuietBelow
import Derived.Deep.DeepCutAuto
import Derived.Deep.CutRange
namespace Go.Proofs.YtkogeeaoppkhkaaDoor
open Go.RowKit Go.Sort

/-- Package heart's two fields, and the table of package bits, as the program lays them. -/
structure FldAt (w : World) : Prop where
  k0 : w.cell? ⟨0, 0, none⟩ = some (.int .i64 0)
  k1 : w.cell? ⟨0, 1, none⟩ = some (.int .i64 8)
  n0 : w.cell? ⟨1, 0, none⟩ = some (.int .i64 8)
  n1 : w.cell? ⟨1, 1, none⟩ = some (.int .i64 32)
  tab : TabAt w
theorem FldAt.next {w w' : World} (h : FldAt w) (hb : Below w.heap.size w w') : FldAt w' :=
  ⟨(hb.cell (World.block_lt_of_cell? _ _ h.k0)).trans h.k0, (hb.cell (World.block_lt_of_cell? _ _ h.k1)).trans h.k1, (hb.cell (World.block_lt_of_cell? _ _ h.n0)).trans h.n0, (hb.cell (World.block_lt_of_cell? _ _ h.n1)).trans h.n1, h.tab.next hb⟩
theorem cell_stay {q : List Nat} {w w' : World} {b j : Nat} {v : Value} (h : w.cell? ⟨b, j, none⟩ = some v) (x : Only q w w') (hn : b ∉ q) : w'.cell? ⟨b, j, none⟩ = some v := by
  have hb := x.block b (World.block_lt_of_cell? w ⟨b, j, none⟩ h) hn
  rw [← h]
  unfold World.cell?
  rw [hb]
theorem FldAt.stay {q : List Nat} {w w' : World} (h : FldAt w) (x : Only q w w') (hq : ∀ k ∈ q, 3 ≤ k) : FldAt w' := by
  have h0 : ∀ g, g < 3 → g ∉ q := fun g hg hm => by have := hq g hm; omega
  exact ⟨cell_stay h.k0 x (h0 _ (by decide)), cell_stay h.k1 x (h0 _ (by decide)), cell_stay h.n0 x (h0 _ (by decide)), cell_stay h.n1 x (h0 _ (by decide)), fun j hj => cell_stay (h.tab j hj) x (h0 _ (by decide))⟩

theorem joinN (k n : Nat) (hk : k < 256) : Ma.putN k n 8 32 = k + 256 * n := by
  have h1 : Ma.andNotN k (Ma.lowN 32 <<< 8) = k := by
    refine Ma.word_ext (Ma.andNotN_lt _ (by omega)) (by omega) fun i hi => ?_
    rw [Ma.testBit_andNotN (by omega) (by decide), Nat.testBit_shiftLeft]
    by_cases h : 8 ≤ i
    · rw [Nat.testBit_lt_two_pow (x := k) (i := i) (Nat.lt_of_lt_of_le (show k < 2 ^ 8 from hk) (Nat.pow_le_pow_right (by decide) h))]; rfl
    · simp [h]
  unfold Ma.putN
  rw [h1, Nat.or_comm, Nat.shiftLeft_eq, Nat.mul_comm n, ← Nat.two_pow_add_eq_or_of_lt (show k < 2 ^ 8 from hk)]
  omega
theorem cast_i64 (k : Nat) (h : k < 18446744073709551616) : IntKind.u64.wrap (k : Int) = (k : Int) := Ma.wrap_nat k h

set_option maxHeartbeats 1000000 in
theorem join_yes (k n : Nat) (w : World) (hk : k < 256) (hn : n < 4294967296) (hF : Hid (FldAt w)) :
    Calls Tryd.prog 76 #[.int .i64 (k : Nat), .int .i64 (n : Nat)] w fun e w' => e = .returned (.tuple #[.int .u64 ((k + 256 * n : Nat) : Int), .bool true]) ∧ Below w.heap.size w w' := by
  have c0 := hF.out.n0
  have c1 := hF.out.n1
  have e1 := cast_i64 k (by omega)
  have e2 := cast_i64 n (by omega)
  have P := Lib.hid (put_yes k n 8 32 w (by omega) (by unfold okF; omega) hn)
  rw [joinN k n hk] at P
  generalize k + 256 * n = X at *
  go_enter Tryd.func76, Tryd.ntmps76
  go_wp2_with (go_at_call 94; refine P.out.mono ?_; rintro e w' ⟨rfl, hb⟩)
  go_ret2
  exact ⟨rfl, hb⟩
set_option maxHeartbeats 1000000 in
theorem join_no (k : Nat) (n : Int) (w : World) (hk : k < 256) (hn : n < 0 ∨ 4294967296 ≤ n) (h0 : -9223372036854775808 ≤ n) (h1 : n < 9223372036854775808) (hF : Hid (FldAt w)) :
    Calls Tryd.prog 76 #[.int .i64 (k : Nat), .int .i64 n] w fun e w' => e = .returned (.tuple #[.int .u64 (k : Int), .bool false]) ∧ Below w.heap.size w w' := by
  have c0 := hF.out.n0
  have c1 := hF.out.n1
  have e1 := cast_i64 k (by omega)
  obtain ⟨N, e2, h2⟩ : ∃ N : Nat, IntKind.u64.wrap n = (N : Int) ∧ 4294967296 ≤ N := by
    refine ⟨(IntKind.u64.wrap n).toNat, ?_, ?_⟩ <;> rw [IntKind.wrap_u64] <;> omega
  have P := Lib.hid (put_big k N 8 32 w (by unfold okF; omega) (by have : Ma.lowN 32 = 4294967295 := by decide
                                                                   omega))
  go_enter Tryd.func76, Tryd.ntmps76
  go_wp2_with (go_at_call 94; refine P.out.mono ?_; rintro e w' ⟨rfl, hb⟩)
  go_ret2
  exact ⟨rfl, hb⟩
def splitOk (x : Nat) : Bool := decide (x < 1099511627776)
theorem get0 (x : Nat) : Ma.getN x 0 8 = x % 256 := by rw [Ma.getN_mod]; simp
theorem get8 (x : Nat) : Ma.getN x 8 32 = x / 256 % 4294967296 := by rw [Ma.getN_mod]
set_option maxHeartbeats 2000000 in
theorem split_any (x : Nat) (w : World) (hx : x < 18446744073709551616) (hF : Hid (FldAt w)) :
    Calls Tryd.prog 50 #[.int .u64 (x : Nat)] w fun e w' => e = .returned (.tuple #[.int .i64 ((x % 256 : Nat) : Int), .int .i64 ((x / 256 % 4294967296 : Nat) : Int), .bool (splitOk x)]) ∧ Below w.heap.size w w' := by
  have c0 := hF.out.k0
  have c1 := hF.out.k1
  have c2 := hF.out.n0
  have c3 := hF.out.n1
  have hA : x % 256 < 256 := by omega
  have hB : x / 256 % 4294967296 < 4294967296 := by omega
  have P1 : ∀ w, Calls Tryd.prog 75 #[.agg #[.int .i64 0, .int .i64 8], .int .u64 x] w fun e w' => e = .returned (.int .u64 (Ma.getN x 0 8 : Nat)) ∧ Below w.heap.size w w' := fun w => get_yes x 0 8 w hx (by unfold okF; omega)
  have P2 : ∀ w, Calls Tryd.prog 75 #[.agg #[.int .i64 8, .int .i64 32], .int .u64 x] w fun e w' => e = .returned (.int .u64 (Ma.getN x 8 32 : Nat)) ∧ Below w.heap.size w w' := fun w => get_yes x 8 32 w hx (by unfold okF; omega)
  have J := Lib.hid fun w (h : FldAt w) => join_yes (x % 256) (x / 256 % 4294967296) w hA hB (Lib.hid h)
  have E : Hid ((((x % 256 + 256 * (x / 256 % 4294967296) : Nat) : Int) == (x : Int)) = splitOk x) := by
    show _ = _
    rw [Bool.eq_iff_iff, splitOk, beq_iff_eq, decide_eq_true_eq]
    omega
  rw [show Ma.getN x 0 8 = x % 256 from get0 x] at P1
  rw [show Ma.getN x 8 32 = x / 256 % 4294967296 from get8 x] at P2
  have i1 := Ma.i64_wrap_nat (x % 256) (by omega)
  have i2 := Ma.i64_wrap_nat (x / 256 % 4294967296) (by omega)
  generalize x % 256 = A at *
  generalize x / 256 % 4294967296 = B at *
  generalize A + 256 * B = X at *
  have k0 := cell_regrown c0
  have k1 := cell_regrown c1
  have k2 := cell_regrown c2
  have k3 := cell_regrown c3
  have a1 := fun d os => Calls.regrown_of (P1 (grow (redrawn w d) os))
  have a2 := fun d os => Calls.regrown_of (P2 (grow (redrawn w d) os))
  go_enter Tryd.func50, Tryd.ntmps50
  go_wp2_with fail
  refine wp_region_quiet_below (by kernel_rfl) (by kernel_rfl) ?_
  repeat (go_big_quiet_step (first | with_reducible exact a1 _ _ | with_reducible exact a2 _ _))
  refine wpQuiet_nil ?_
  intro _ hw'
  obtain ⟨⟨dq, osq⟩, hw''⟩ := hw'
  subst hw''
  have B1 := Lib.hid (below_regrown w dq osq)
  generalize Sort.grow (redrawn w dq) osq = wi at *
  have F1 := Lib.hid (hF.out.next B1.out)
  clear k0 k1 k2 k3 a1 a2 c0 c1 c2 c3 P1 P2
  go_wp2_with (go_at_call 76; refine (J.out _ F1.out).mono ?_; rintro e w' ⟨rfl, hb⟩)
  go_ret3
  exact ⟨by rw [← E.out]; rfl, B1.out.trans (hb.mono B1.out.size)⟩
/-- What is asked. -/
def askA (k : Nat) (n : Int) : Nat := if 0 ≤ n ∧ n < 4294967296 then k + 256 * n.toNat else 0
def askB (n : Int) (m : Nat) : Nat := if 0 ≤ n ∧ n < 4294967296 then m else 0
theorem bel2op {w w1 : World} {N : Nat} (h : Below w.heap.size w w1) (hN : w.heap.size ≤ N) (u v : Value) : Below w.heap.size w ((w1.setCell ⟨N, 0, none⟩ u).setCell ⟨N, 1, none⟩ v) :=
  (h.setCell (p := ⟨N, 0, none⟩) hN u).setCell (p := ⟨N, 1, none⟩) hN v
/-- An Op's box. -/
def OpBox (w : World) (N A B : Nat) : Prop := w.heap[N]? = some (.cells #[.int .u64 A, .int .u64 B] 37 (0, 0))
theorem OpBox.c0 {w : World} {N A B : Nat} (h : OpBox w N A B) : w.cell? ⟨N, 0, none⟩ = some (.int .u64 A) := by rw [cell_of h]; rfl
theorem OpBox.c1 {w : World} {N A B : Nat} (h : OpBox w N A B) : w.cell? ⟨N, 1, none⟩ = some (.int .u64 B) := by rw [cell_of h]; rfl
theorem OpBox.next {w w' : World} {N A B : Nat} (h : OpBox w N A B) (hb : Below w.heap.size w w') : OpBox w' N A B := (hb.block N (heap_lt h)).trans h
theorem OpBox.set {w : World} {N A B : Nat} (h : OpBox w N A B) (C D : Nat) : OpBox ((w.setCell ⟨N, 0, none⟩ (.int .u64 C)).setCell ⟨N, 1, none⟩ (.int .u64 D)) N C D := set_of (set_of h _) _
theorem OpBox.zero {w : World} {N A B : Nat} (h : OpBox w N A B) : OpBox ((w.setCell ⟨N, 0, none⟩ (.int .u64 0)).setCell ⟨N, 1, none⟩ (.int .u64 0)) N 0 0 := h.set 0 0
theorem OpBox.z0 {w : World} {N : Nat} (h : OpBox w N 0 0) : w.cell? ⟨N, 0, none⟩ = some (.int .u64 0) := h.c0
theorem OpBox.z1 {w : World} {N : Nat} (h : OpBox w N 0 0) : w.cell? ⟨N, 1, none⟩ = some (.int .u64 0) := h.c1
theorem OpBox.new (w : World) : OpBox (w.alloc (.cells #[.int .u64 0, .int .u64 0] 37)) w.heap.size 0 0 := heap_new w _
set_option maxHeartbeats 1000000 in
theorem opOf_any (k : Nat) (n : Int) (m : Nat) (w : World) (hk : k < 256) (h0 : -9223372036854775808 ≤ n) (h1 : n < 9223372036854775808) (hF : Hid (FldAt w)) :
    Calls Tryd.prog 55 #[.int .i64 (k : Nat), .int .i64 n, .int .u64 (m : Nat)] w fun e w' => e = .returned (.agg #[.int .u64 (askA k n : Nat), .int .u64 (askB n m : Nat)]) ∧ Below w.heap.size w w' := by
  have B0 := Lib.hid (box1 w (.cells #[.int .u64 0, .int .u64 0] 37))
  have N0 := Lib.hid (OpBox.new w)
  by_cases hn : 0 ≤ n ∧ n < 4294967296
  · obtain ⟨N, rfl⟩ := Int.eq_ofNat_of_zero_le hn.1
    have e1 : Hid (askA k (N : Int) = k + 256 * N) := by show _ = _; unfold askA; rw [if_pos hn]; simp
    have e2 : Hid (askB (N : Int) m = m) := by show _ = _; unfold askB; rw [if_pos hn]
    rw [e1.out, e2.out]
    have J := Lib.hid fun w (h : FldAt w) => join_yes k N w hk (by omega) (Lib.hid h)
    generalize k + 256 * N = X at *
    go_enter Tryd.func55, Tryd.ntmps55
    go_wp2_with fail
    refine (J.out _ (hF.out.next B0.out)).mono ?_
    rintro e w1 ⟨rfl, hb⟩
    have B1 := Lib.hid (B0.out.trans (hb.mono B0.out.size))
    have N1 := Lib.hid (N0.out.next hb)
    have c0 := N1.out.c0
    have c1 := N1.out.c1
    have f0 := frozen_of (j := 0) N1.out
    have f1 := frozen_of (j := 1) N1.out
    clear hb N0 J
    go_wp2_with fail
    have R := N1.out.set X m
    exact bodyPost_ret (v := .agg #[.int .u64 X, .int .u64 m]) (by simp [results, Tryd.results55, go_sem, R.c0, R.c1]) rfl ⟨rfl, bel2op B1.out (Nat.le_refl _) _ _⟩
  · have e1 : Hid (askA k n = 0) := by show _ = _; unfold askA; rw [if_neg hn]
    have e2 : Hid (askB n m = 0) := by show _ = _; unfold askB; rw [if_neg hn]
    rw [e1.out, e2.out]
    have J := Lib.hid fun w (h : FldAt w) => join_no k n w hk (by omega) h0 h1 (Lib.hid h)
    clear hn
    go_enter Tryd.func55, Tryd.ntmps55
    go_wp2_with fail
    refine (J.out _ (hF.out.next B0.out)).mono ?_
    rintro e w1 ⟨rfl, hb⟩
    have B1 := Lib.hid (B0.out.trans (hb.mono B0.out.size))
    have N1 := Lib.hid (N0.out.next hb)
    have c0 := N1.out.c0
    have c1 := N1.out.c1
    have f0 := frozen_of (j := 0) N1.out
    have f1 := frozen_of (j := 1) N1.out
    clear hb N0 J
    go_wp2_with fail
    have R := N1.out.zero
    exact bodyPost_ret (v := .agg #[.int .u64 0, .int .u64 0]) (by simp [results, Tryd.results55, go_sem, R.z0, R.z1]) rfl ⟨rfl, bel2op B1.out (Nat.le_refl _) _ _⟩
theorem refillOp_any (n : Int) (w : World) (h0 : -9223372036854775808 ≤ n) (h1 : n < 9223372036854775808) (hF : Hid (FldAt w)) :
    Calls Tryd.prog 22 #[.int .i64 n] w fun e w' => e = .returned (.agg #[.int .u64 (askA 1 n : Nat), .int .u64 (askB n 0 : Nat)]) ∧ Below w.heap.size w w' := by
  have B0 := Lib.hid (box1 w (.cells #[.int .u64 0, .int .u64 0] 37))
  have N0 := Lib.hid (OpBox.new w)
  have J : Hid (∀ w, FldAt w → Calls Tryd.prog 55 #[.int .i64 1, .int .i64 n, .int .u64 0] w fun e w' => e = .returned (.agg #[.int .u64 (askA 1 n : Nat), .int .u64 (askB n 0 : Nat)]) ∧ Below w.heap.size w w') := fun w h => opOf_any 1 n 0 w (by decide) h0 h1 (Lib.hid h)
  generalize askA 1 n = X at *
  generalize askB n 0 = Y at *
  go_enter Tryd.func22, Tryd.ntmps22
  go_wp2_with fail
  refine (J.out _ (hF.out.next B0.out)).mono ?_
  rintro e w1 ⟨rfl, hb⟩
  have B1 := Lib.hid (B0.out.trans (hb.mono B0.out.size))
  have N1 := Lib.hid (N0.out.next hb)
  have c0 := N1.out.c0
  have c1 := N1.out.c1
  have f0 := frozen_of (j := 0) N1.out
  have f1 := frozen_of (j := 1) N1.out
  clear hb N0 J
  go_wp2_with fail
  have R := N1.out.set X Y
  exact bodyPost_ret (v := .agg #[.int .u64 X, .int .u64 Y]) (by simp [results, Tryd.results22, go_sem, R.c0, R.c1]) rfl ⟨rfl, bel2op B1.out (Nat.le_refl _) _ _⟩
theorem flushOp_any (n : Int) (m : Nat) (w : World) (h0 : -9223372036854775808 ≤ n) (h1 : n < 9223372036854775808) (hF : Hid (FldAt w)) :
    Calls Tryd.prog 25 #[.int .i64 n, .int .u64 (m : Nat)] w fun e w' => e = .returned (.agg #[.int .u64 (askA 2 n : Nat), .int .u64 (askB n m : Nat)]) ∧ Below w.heap.size w w' := by
  have B0 := Lib.hid (box1 w (.cells #[.int .u64 0, .int .u64 0] 37))
  have N0 := Lib.hid (OpBox.new w)
  have J : Hid (∀ w, FldAt w → Calls Tryd.prog 55 #[.int .i64 2, .int .i64 n, .int .u64 m] w fun e w' => e = .returned (.agg #[.int .u64 (askA 2 n : Nat), .int .u64 (askB n m : Nat)]) ∧ Below w.heap.size w w') := fun w h => opOf_any 2 n m w (by decide) h0 h1 (Lib.hid h)
  generalize askA 2 n = X at *
  generalize askB n m = Y at *
  go_enter Tryd.func25, Tryd.ntmps25
  go_wp2_with fail
  refine (J.out _ (hF.out.next B0.out)).mono ?_
  rintro e w1 ⟨rfl, hb⟩
  have B1 := Lib.hid (B0.out.trans (hb.mono B0.out.size))
  have N1 := Lib.hid (N0.out.next hb)
  have c0 := N1.out.c0
  have c1 := N1.out.c1
  have f0 := frozen_of (j := 0) N1.out
  have f1 := frozen_of (j := 1) N1.out
  clear hb N0 J
  go_wp2_with fail
  have R := N1.out.set X Y
  exact bodyPost_ret (v := .agg #[.int .u64 X, .int .u64 Y]) (by simp [results, Tryd.results25, go_sem, R.c0, R.c1]) rfl ⟨rfl, bel2op B1.out (Nat.le_refl _) _ _⟩
theorem takeOp_any (n : Int) (w : World) (h0 : -9223372036854775808 ≤ n) (h1 : n < 9223372036854775808) (hF : Hid (FldAt w)) :
    Calls Tryd.prog 26 #[.int .i64 n] w fun e w' => e = .returned (.agg #[.int .u64 (askA 3 n : Nat), .int .u64 (askB n 0 : Nat)]) ∧ Below w.heap.size w w' := by
  have B0 := Lib.hid (box1 w (.cells #[.int .u64 0, .int .u64 0] 37))
  have N0 := Lib.hid (OpBox.new w)
  have J : Hid (∀ w, FldAt w → Calls Tryd.prog 55 #[.int .i64 3, .int .i64 n, .int .u64 0] w fun e w' => e = .returned (.agg #[.int .u64 (askA 3 n : Nat), .int .u64 (askB n 0 : Nat)]) ∧ Below w.heap.size w w') := fun w h => opOf_any 3 n 0 w (by decide) h0 h1 (Lib.hid h)
  generalize askA 3 n = X at *
  generalize askB n 0 = Y at *
  go_enter Tryd.func26, Tryd.ntmps26
  go_wp2_with fail
  refine (J.out _ (hF.out.next B0.out)).mono ?_
  rintro e w1 ⟨rfl, hb⟩
  have B1 := Lib.hid (B0.out.trans (hb.mono B0.out.size))
  have N1 := Lib.hid (N0.out.next hb)
  have c0 := N1.out.c0
  have c1 := N1.out.c1
  have f0 := frozen_of (j := 0) N1.out
  have f1 := frozen_of (j := 1) N1.out
  clear hb N0 J
  go_wp2_with fail
  have R := N1.out.set X Y
  exact bodyPost_ret (v := .agg #[.int .u64 X, .int .u64 Y]) (by simp [results, Tryd.results26, go_sem, R.c0, R.c1]) rfl ⟨rfl, bel2op B1.out (Nat.le_refl _) _ _⟩
theorem giveOp_any (n : Int) (w : World) (h0 : -9223372036854775808 ≤ n) (h1 : n < 9223372036854775808) (hF : Hid (FldAt w)) :
    Calls Tryd.prog 23 #[.int .i64 n] w fun e w' => e = .returned (.agg #[.int .u64 (askA 4 n : Nat), .int .u64 (askB n 0 : Nat)]) ∧ Below w.heap.size w w' := by
  have B0 := Lib.hid (box1 w (.cells #[.int .u64 0, .int .u64 0] 37))
  have N0 := Lib.hid (OpBox.new w)
  have J : Hid (∀ w, FldAt w → Calls Tryd.prog 55 #[.int .i64 4, .int .i64 n, .int .u64 0] w fun e w' => e = .returned (.agg #[.int .u64 (askA 4 n : Nat), .int .u64 (askB n 0 : Nat)]) ∧ Below w.heap.size w w') := fun w h => opOf_any 4 n 0 w (by decide) h0 h1 (Lib.hid h)
  generalize askA 4 n = X at *
  generalize askB n 0 = Y at *
  go_enter Tryd.func23, Tryd.ntmps23
  go_wp2_with fail
  refine (J.out _ (hF.out.next B0.out)).mono ?_
  rintro e w1 ⟨rfl, hb⟩
  have B1 := Lib.hid (B0.out.trans (hb.mono B0.out.size))
  have N1 := Lib.hid (N0.out.next hb)
  have c0 := N1.out.c0
  have c1 := N1.out.c1
  have f0 := frozen_of (j := 0) N1.out
  have f1 := frozen_of (j := 1) N1.out
  clear hb N0 J
  go_wp2_with fail
  have R := N1.out.set X Y
  exact bodyPost_ret (v := .agg #[.int .u64 X, .int .u64 Y]) (by simp [results, Tryd.results23, go_sem, R.c0, R.c1]) rfl ⟨rfl, bel2op B1.out (Nat.le_refl _) _ _⟩
end Go.Proofs.YtkogeeaoppkhkaaDoor
