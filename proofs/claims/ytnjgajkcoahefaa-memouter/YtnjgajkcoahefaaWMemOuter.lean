/-
  The walk of the statement MemOuter: an access to a word that there isn't changes nothing, answers nothing, and is one fault.
-/
import Derived.Test.YtnjgajkcoahefaaMem5
namespace Go.Proofs.Ytnjgajkcoahefaa
open Go.RowKit

theorem new_byte (n : Nat) (w : World) (hn : n ≤ 255) : Calls Try.prog 16 #[.int .i64 n] w fun e w' => ∃ g h, e = .returned (.pointer (some ⟨g, 0, none⟩)) ∧ MemAt w' g h (MSt.fresh n) ∧ w.heap.size ≤ g ∧ w.heap.size ≤ h ∧ Below w.heap.size w w' := new_nat n n w (.inr (.inl ⟨rfl, by omega⟩))

theorem fresh_out {n : Nat} {a : Int} (h : ¬ (0 ≤ a ∧ a < n)) : inM (MSt.fresh n) a = false := inM_out (by simpa [MSt.fresh] using h)
/-- The memory behind faults alone. -/
def MSt.faulty (n k : Nat) (kind a : Int) : MSt := ⟨List.replicate n 0, k, k, kind, a⟩
theorem faulty_begun {n k : Nat} {kind a kd : Int} (h : inM (MSt.fresh n) a = false) : (MSt.faulty n k kind a).begun kd a = MSt.faulty n (k + 1) kd a := by
  have h' : inM (MSt.faulty n k kind a) a = false := h
  unfold MSt.begun
  rw [h']
  rfl

theorem fresh_faulty (n : Nat) (a : Int) : MSt.fresh n = { MSt.faulty n 0 0 a with at_ := 0 } := rfl
theorem fresh_begun {n : Nat} {a kd : Int} (h : inM (MSt.fresh n) a = false) : (MSt.fresh n).begun kd a = MSt.faulty n 1 kd a := by
  unfold MSt.begun
  rw [h]
  rfl
theorem f_store {n : Nat} {a : Int} (x : Nat) {w : World} {g h : Nat} (m : MemAt w g h (MSt.fresh n)) (hi : inM (MSt.fresh n) a = false) :
    Calls Try.prog 23 #[.pointer (some ⟨g, 0, none⟩), .int .i64 a, .int .u64 (x : Int)] w fun e w' => e = .returned (.tuple #[]) ∧ MemAt w' g h (MSt.faulty n 1 2 a) ∧ Else g h w w' := by
  refine (store_any g h _ a x w m (show (0 : Nat) < 4611686018427387904 by decide) (show (0 : Nat) < 4611686018427387904 by decide)).mono ?_
  rintro e w' ⟨rfl, m1, e1⟩
  rw [put_no (s := (MSt.fresh n).begun 2 a) hi, fresh_begun hi] at m1
  exact ⟨rfl, m1, e1⟩
theorem f_load {n k : Nat} {kd a : Int} {w : World} {g h : Nat} (m : MemAt w g h (MSt.faulty n k kd a)) (hk : k ≤ 10) (hi : inM (MSt.fresh n) a = false) :
    Calls Try.prog 25 #[.pointer (some ⟨g, 0, none⟩), .int .i64 a] w fun e w' => e = .returned (.int .u64 0) ∧ MemAt w' g h (MSt.faulty n (k + 1) 1 a) ∧ Else g h w w' := by
  refine (load_any g h _ a w m (show k < _ by omega) (show k < _ by omega)).mono ?_
  rintro e w' ⟨rfl, m1, e1⟩
  rw [faulty_begun hi] at m1
  exact ⟨by rw [rd_no (s := MSt.faulty n k kd a) hi]; rfl, m1, e1⟩
theorem f_swap {n k : Nat} {kd a : Int} (x : Nat) {w : World} {g h : Nat} (m : MemAt w g h (MSt.faulty n k kd a)) (hk : k ≤ 10) (hi : inM (MSt.fresh n) a = false) :
    Calls Try.prog 28 #[.pointer (some ⟨g, 0, none⟩), .int .i64 a, .int .u64 (x : Int)] w fun e w' => e = .returned (.int .u64 0) ∧ MemAt w' g h (MSt.faulty n (k + 1) 3 a) ∧ Else g h w w' := by
  refine (swap_any g h _ a x w m (show k < _ by omega) (show k < _ by omega)).mono ?_
  rintro e w' ⟨rfl, m1, e1⟩
  rw [put_no (s := (MSt.faulty n k kd a).begun 3 a) hi, faulty_begun hi] at m1
  exact ⟨by rw [rd_no (s := MSt.faulty n k kd a) hi]; rfl, m1, e1⟩
theorem f_add {n k : Nat} {kd a : Int} (x : Nat) {w : World} {g h : Nat} (m : MemAt w g h (MSt.faulty n k kd a)) (hk : k ≤ 10) (hi : inM (MSt.fresh n) a = false) :
    Calls Try.prog 27 #[.pointer (some ⟨g, 0, none⟩), .int .i64 a, .int .u64 (x : Int)] w fun e w' => e = .returned (.int .u64 0) ∧ MemAt w' g h (MSt.faulty n (k + 1) 5 a) ∧ Else g h w w' := by
  refine (add_any g h _ a x w m (show k < _ by omega) (show k < _ by omega)).mono ?_
  rintro e w' ⟨rfl, m1, e1⟩
  rw [put_no (s := (MSt.faulty n k kd a).begun 5 a) hi, faulty_begun hi] at m1
  exact ⟨by rw [rd_no (s := MSt.faulty n k kd a) hi]; rfl, m1, e1⟩
theorem f_swing {n k : Nat} {kd a : Int} (x : Nat) {w : World} {g h : Nat} (m : MemAt w g h (MSt.faulty n k kd a)) (hk : k ≤ 10) (hi : inM (MSt.fresh n) a = false) :
    Calls Try.prog 24 #[.pointer (some ⟨g, 0, none⟩), .int .i64 a, .int .u64 0, .int .u64 (x : Int)] w fun e w' => e = .returned (.bool false) ∧ MemAt w' g h (MSt.faulty n (k + 1) 4 a) ∧ Else g h w w' := by
  refine (swing_any g h _ a 0 x w m (show k < _ by omega) (show k < _ by omega)).mono ?_
  rintro e w' ⟨rfl, m1, e1⟩
  obtain ⟨h1, h2⟩ := swung_out (s := MSt.faulty n k kd a) (old := 0) (x := x) hi
  rw [h2, faulty_begun hi] at m1
  exact ⟨by rw [h1], m1, e1⟩
theorem f_peek {n k : Nat} {kd a : Int} {w : World} {g h : Nat} (m : MemAt w g h (MSt.faulty n k kd a)) (hi : inM (MSt.fresh n) a = false) :
    Calls Try.prog 26 #[.pointer (some ⟨g, 0, none⟩), .int .i64 a] w fun e w' => e = .returned (.int .u64 0) ∧ w = w' := by
  refine (peek_any g h _ a w m).mono ?_
  rintro e w' ⟨rfl, rfl⟩
  exact ⟨by rw [rd_no (s := MSt.faulty n k kd a) hi]; rfl, rfl⟩
theorem zero_cell {w : World} {b n : Nat} (h : w.heap[b]? = some (.cells (wordsOf (List.replicate n 0)) 30 (0, 0))) (j : Nat) (hj : j < n) : w.cell? ⟨b, j, none⟩ = some (.int .u64 0) := by
  rw [cell_of h]; simp [wordsOf, hj]

set_option maxHeartbeats 1000000 in
theorem outer_out (n : Nat) (a : Int) (x : Nat) (w : World) (hn : n ≤ 255) (ha : Hid (¬ (0 ≤ a ∧ a < n))) :
    Calls Try.prog 8 #[.int .u8 n, .int .i64 a, .int .u64 x] w fun e w' => e = .returned (.bool true) ∧ Below w.heap.size w w' := by
  have HO := Lib.hid (fresh_out ha.out)
  go_enter Try.func8, Try.ntmps8
  go_wp2_with fail
  refine (speaks3 _).mono ?_
  rintro e w1 ⟨rfl, hb⟩
  have B1 := Lib.hid hb
  clear hb
  go_wp2_with fail
  refine (new_byte n _ hn).mono ?_
  rintro e w2 ⟨g, h, rfl, m2, hg, hh, hb⟩
  have hg' : w.heap.size ≤ g := Nat.le_trans B1.out.size hg
  have hh' : w.heap.size ≤ h := Nat.le_trans B1.out.size hh
  have B2 := Lib.hid (below_then B1.out hb)
  clear hb
  by_cases h0 : 0 ≤ a
  · have k1 : decide (a < (n : Int)) = false := by have := ha.out; simp; omega
    go_wp2_with fail
    refine (f_store x m2 HO.out).mono ?_
    rintro e w3 ⟨rfl, m3, hx⟩
    have B3 := Lib.hid (below_else B2.out hg' hh' hx)
    clear hx m2
    go_wp2_with fail
    refine (f_load m3 (by decide) HO.out).mono ?_
    rintro e w4 ⟨rfl, m4, hx⟩
    have B4 := Lib.hid (below_else B3.out hg' hh' hx)
    clear hx m3
    go_wp2_with fail
    refine (f_swap x m4 (by decide) HO.out).mono ?_
    rintro e w5 ⟨rfl, m5, hx⟩
    have B5 := Lib.hid (below_else B4.out hg' hh' hx)
    clear hx m4
    go_wp2_with fail
    refine (f_swing x m5 (by decide) HO.out).mono ?_
    rintro e w6 ⟨rfl, m6, hx⟩
    have B6 := Lib.hid (below_else B5.out hg' hh' hx)
    clear hx m5
    go_wp2_with fail
    refine (f_add x m6 (by decide) HO.out).mono ?_
    rintro e w7 ⟨rfl, m7, hx⟩
    have B7 := Lib.hid (below_else B6.out hg' hh' hx)
    clear hx m6
    go_wp2_with fail
    refine (words_any g h _ _ m7).mono ?_
    rintro e w8 ⟨b, he, hw, hbl, hb⟩
    have he' : e = .returned (.slice (some ⟨b, 0, none⟩) n n) := by rw [he]; simp [MSt.faulty]
    subst he'
    have m8 := m7.next hb
    have B8 := Lib.hid (below_then B7.out hb)
    have HW := Lib.hid (zero_cell (n := n) hw)
    clear hb he hw m7
    go_wp2_with fail
    go_loop [49] (fun u => ∃ k : Nat, k ≤ n ∧ u = .int .i64 k) (fun u => n - (intOf u).toNat)
    case atStart => exact ⟨0, Nat.zero_le _, rfl⟩
    case round =>
      obtain ⟨k, hk, rfl⟩ := hrel
      by_cases hl : k < n
      · have hc := HW.out k hl
        have l2 : (k : Int) < (n : Int) := by omega
        go_wp2_with fail
        go_round
        case rel => exact ⟨k + 1, by omega, by go_num⟩
        case measure => simp [intOf]; omega
      · obtain rfl : k = n := by omega
        go_wp2_with fail
        refine (faults_any g h _ _ m8).mono ?_
        rintro e w' ⟨he, rfl⟩
        have he' : e = .returned (.int .i64 5) := he
        subst he'
        clear he
        go_wp2_with fail
        refine (ops_any g h _ _ m8).mono ?_
        rintro e w' ⟨he, rfl⟩
        have he' : e = .returned (.int .i64 5) := he
        subst he'
        clear he
        go_wp2_with fail
        refine (f_peek m8 HO.out).mono ?_
        rintro e w' ⟨rfl, rfl⟩
        go_wp2_with fail
        go_ret
        exact ⟨rfl, B8.out⟩
  · have k1 : decide (0 ≤ a) = false := by simpa using h0
    go_wp2_with fail
    refine (f_store x m2 HO.out).mono ?_
    rintro e w3 ⟨rfl, m3, hx⟩
    have B3 := Lib.hid (below_else B2.out hg' hh' hx)
    clear hx m2
    go_wp2_with fail
    refine (f_load m3 (by decide) HO.out).mono ?_
    rintro e w4 ⟨rfl, m4, hx⟩
    have B4 := Lib.hid (below_else B3.out hg' hh' hx)
    clear hx m3
    go_wp2_with fail
    refine (f_swap x m4 (by decide) HO.out).mono ?_
    rintro e w5 ⟨rfl, m5, hx⟩
    have B5 := Lib.hid (below_else B4.out hg' hh' hx)
    clear hx m4
    go_wp2_with fail
    refine (f_swing x m5 (by decide) HO.out).mono ?_
    rintro e w6 ⟨rfl, m6, hx⟩
    have B6 := Lib.hid (below_else B5.out hg' hh' hx)
    clear hx m5
    go_wp2_with fail
    refine (f_add x m6 (by decide) HO.out).mono ?_
    rintro e w7 ⟨rfl, m7, hx⟩
    have B7 := Lib.hid (below_else B6.out hg' hh' hx)
    clear hx m6
    go_wp2_with fail
    refine (words_any g h _ _ m7).mono ?_
    rintro e w8 ⟨b, he, hw, hbl, hb⟩
    have he' : e = .returned (.slice (some ⟨b, 0, none⟩) n n) := by rw [he]; simp [MSt.faulty]
    subst he'
    have m8 := m7.next hb
    have B8 := Lib.hid (below_then B7.out hb)
    have HW := Lib.hid (zero_cell (n := n) hw)
    clear hb he hw m7
    go_wp2_with fail
    go_loop [49] (fun u => ∃ k : Nat, k ≤ n ∧ u = .int .i64 k) (fun u => n - (intOf u).toNat)
    case atStart => exact ⟨0, Nat.zero_le _, rfl⟩
    case round =>
      obtain ⟨k, hk, rfl⟩ := hrel
      by_cases hl : k < n
      · have hc := HW.out k hl
        have l2 : (k : Int) < (n : Int) := by omega
        go_wp2_with fail
        go_round
        case rel => exact ⟨k + 1, by omega, by go_num⟩
        case measure => simp [intOf]; omega
      · obtain rfl : k = n := by omega
        go_wp2_with fail
        refine (faults_any g h _ _ m8).mono ?_
        rintro e w' ⟨he, rfl⟩
        have he' : e = .returned (.int .i64 5) := he
        subst he'
        clear he
        go_wp2_with fail
        refine (ops_any g h _ _ m8).mono ?_
        rintro e w' ⟨he, rfl⟩
        have he' : e = .returned (.int .i64 5) := he
        subst he'
        clear he
        go_wp2_with fail
        refine (f_peek m8 HO.out).mono ?_
        rintro e w' ⟨rfl, rfl⟩
        go_wp2_with fail
        go_ret
        exact ⟨rfl, B8.out⟩

set_option maxHeartbeats 1000000 in
theorem outer_in (n : Nat) (a : Int) (x : Nat) (w : World) (hn : n ≤ 255) (h0 : 0 ≤ a) (h1 : a < n) :
    Calls Try.prog 8 #[.int .u8 n, .int .i64 a, .int .u64 x] w fun e w' => e = .returned (.bool true) ∧ Below w.heap.size w w' := by
  go_enter Try.func8, Try.ntmps8
  go_wp2_with fail
  refine (speaks3 _).mono ?_
  rintro e w1 ⟨rfl, hb⟩
  have B1 := Lib.hid hb
  clear hb
  go_wp2_with fail
  refine (new_byte n _ hn).mono ?_
  rintro e w2 ⟨g, h, rfl, _, hg, hh, hb⟩
  have B2 := Lib.hid (below_then B1.out hb)
  clear hb
  go_wp2_with fail
  go_ret
  exact ⟨rfl, B2.out⟩

theorem outer_walk (n : Nat) (a : Int) (x : Nat) (w : World) (hn : n ≤ 255) :
    Calls Try.prog 8 #[.int .u8 n, .int .i64 a, .int .u64 x] w fun e w' => e = .returned (.bool true) ∧ Below w.heap.size w w' := by
  by_cases h : 0 ≤ a ∧ a < n
  · exact outer_in n a x w hn h.1 h.2
  · exact outer_out n a x w hn h

end Go.Proofs.Ytnjgajkcoahefaa
