/-
  The walk of the statement MemOwn: words that are answered are apart; a memory has no more words than may be, and no fewer than none.
-/
import Derived.Test.YtnjgajkcoahefaaMem5
namespace Go.Proofs.Ytnjgajkcoahefaa
open Go.RowKit

/-- The first k words of a row, then noughts. -/
def filled (f : Nat → Nat) (k n : Nat) : List Nat := (List.range n).map fun i => if i < k then f i else 0
theorem filled_len (f : Nat → Nat) (k n : Nat) : (filled f k n).length = n := by simp [filled]
theorem filled_zero (f : Nat → Nat) (n : Nat) : filled f 0 n = List.replicate n 0 := by
  apply List.ext_getElem
  · simp [filled]
  · intro i h1 h2; simp [filled]
theorem filled_step (f : Nat → Nat) (k n : Nat) : (filled f k n).set k (f k) = filled f (k + 1) n := by
  apply List.ext_getElem
  · simp [filled]
  · intro i h1 h2
    simp only [filled, List.getElem_set, List.getElem_map, List.getElem_range]
    by_cases h : k = i
    · subst h; simp
    · rw [if_neg h]
      by_cases h' : i < k
      · rw [if_pos h', if_pos (by omega)]
      · rw [if_neg h', if_neg (by omega)]
theorem filled_at (f : Nat → Nat) (n i : Nat) (h : i < n) : (filled f n n).getD i 0 = f i := by
  simp [filled, h]

theorem MemAt.aside {w : World} {g h b j : Nat} {s : MSt} (m : MemAt w g h s) (h1 : g ≠ b) (h2 : h ≠ b) (v : Value) : MemAt (w.setCell ⟨b, j, none⟩ v) g h s :=
  ⟨(set_other h1 v).trans m.head, (set_other h2 v).trans m.body, m.ne, m.len⟩
theorem words_set {w : World} {b j : Nat} {ys : List Nat} (hw : w.heap[b]? = some (.cells (wordsOf ys) 30 (0, 0))) (x : Nat) : (w.setCell ⟨b, j, none⟩ (.int .u64 (x : Int))).heap[b]? = some (.cells (wordsOf (ys.set j x)) 30 (0, 0)) := by
  rw [set_of hw]; congr 1; simp [wordsOf]
theorem words_at {w : World} {b j : Nat} {ys : List Nat} (hw : w.heap[b]? = some (.cells (wordsOf ys) 30 (0, 0))) (hj : j < ys.length) : w.cell? ⟨b, j, none⟩ = some (.int .u64 ((ys.getD j 0 : Nat) : Int)) := by
  rw [cell_of hw]; simp [wordsOf, hj]
theorem new_len (n : Nat) (w : World) (hn : n ≤ 200) : Calls Try.prog 16 #[.int .i64 n] w fun e w' => ∃ g h, e = .returned (.pointer (some ⟨g, 0, none⟩)) ∧ MemAt w' g h (MSt.fresh n) ∧ w.heap.size ≤ g ∧ w.heap.size ≤ h ∧ Below w.heap.size w w' := new_nat n n w (.inr (.inl ⟨rfl, by omega⟩))
theorem own_store {f : Nat → Nat} {k n : Nat} {kd a : Int} {w : World} {g h : Nat} (m : MemAt w g h ⟨filled f k n, k, 0, kd, a⟩) (hk : k < n) (hn : n ≤ 200) :
    Calls Try.prog 23 #[.pointer (some ⟨g, 0, none⟩), .int .i64 k, .int .u64 ((f k : Nat) : Int)] w fun e w' => e = .returned (.tuple #[]) ∧ MemAt w' g h ⟨filled f (k + 1) n, k + 1, 0, 2, k⟩ ∧ Else g h w w' := by
  refine (store_any g h _ k (f k) w m (show k < _ by omega) (show (0 : Nat) < 4611686018427387904 by decide)).mono ?_
  rintro e w' ⟨rfl, m1, e1⟩
  have hi : inM ⟨filled f k n, k, 0, kd, a⟩ (k : Int) = true := by rw [inM_nat, filled_len]; simpa using hk
  have e2 : (MSt.begun ⟨filled f k n, k, 0, kd, a⟩ 2 k).put k (f k) = ⟨filled f (k + 1) n, k + 1, 0, 2, k⟩ := by
    unfold MSt.put
    rw [inM_begun, hi, begun_yes hi, ← filled_step]
    rfl
  rw [e2] at m1
  exact ⟨rfl, m1, e1⟩
theorem own_peek {f : Nat → Nat} {k n i : Nat} {kd a : Int} {w : World} {g h : Nat} (m : MemAt w g h ⟨filled f n n, k, 0, kd, a⟩) (hi : i < n) :
    Calls Try.prog 26 #[.pointer (some ⟨g, 0, none⟩), .int .i64 i] w fun e w' => e = .returned (.int .u64 ((f i : Nat) : Int)) ∧ w = w' := by
  refine (peek_any g h _ i w m).mono ?_
  rintro e w' ⟨rfl, rfl⟩
  exact ⟨by rw [rd_nat (by rw [filled_len]; exact hi)]; show _ = Ending.returned _; rw [show (MSt.ws ⟨filled f n n, k, 0, kd, a⟩) = filled f n n from rfl, filled_at f n i hi], rfl⟩

theorem new_any (n : Int) (w : World) (hn : n ≤ 65536) : Calls Try.prog 16 #[.int .i64 n] w fun e w' => ∃ g h, e = .returned (.pointer (some ⟨g, 0, none⟩)) ∧ MemAt w' g h (MSt.fresh n.toNat) ∧ Below w.heap.size w w' := by
  have key : (n < 0 ∧ n.toNat = 0) ∨ (n = (n.toNat : Int) ∧ n.toNat ≤ 16777216) ∨ (16777216 < n ∧ n.toNat = 16777216) := by omega
  refine (new_nat n.toNat n w key).mono ?_
  rintro e w' ⟨g, h, rfl, m, _, _, hb⟩
  exact ⟨g, h, rfl, m, hb⟩
theorem fresh_len (N : Nat) {w : World} {g h : Nat} (m : MemAt w g h (MSt.fresh N)) : Calls Try.prog 22 #[.pointer (some ⟨g, 0, none⟩)] w fun e w' => e = .returned (.int .i64 N) ∧ w = w' := by
  have := len_any g h _ w m
  rw [show (MSt.fresh N).ws.length = N from by simp [MSt.fresh]] at this
  exact this

theorem ret_true {b : Bool} (h : b = true) : Ending.returned (.bool b) = .returned (.bool true) := by rw [h]
set_option maxHeartbeats 1000000 in
theorem own_few (n : Int) (len cap : Nat) (ad : Option Addr) (f : Nat → Nat) (w : World) (hlen : len ≤ 200) (hc : Hid (Row64 w ad len f)) :
    Calls Try.prog 6 #[.int .i64 n, .slice ad len cap] w fun e w' => e = .returned (.bool true) ∧ Below w.heap.size w w' := by
  have l1 : (len : Int) ≤ 200 := by omega
  go_enter Try.func6, Try.ntmps6
  go_wp2_with fail
  refine (speaks3 _).mono ?_
  rintro e w1 ⟨rfl, hb⟩
  have B1 := Lib.hid hb
  clear hb
  go_wp2_with fail
  refine (new_len len _ hlen).mono ?_
  rintro e w2 ⟨g, h, rfl, m2, hg, hh, hb⟩
  have hg' : w.heap.size ≤ g := Nat.le_trans B1.out.size hg
  have hh' : w.heap.size ≤ h := Nat.le_trans B1.out.size hh
  have B2 := Lib.hid (below_then B1.out hb)
  clear hb
  go_wp2_with fail
  go_loopw [22] (fun u wr => ∃ (k : Nat) (kd a : Int), k ≤ len ∧ u = .int .i64 k ∧ MemAt wr g h ⟨filled f k len, k, 0, kd, a⟩ ∧ Below w.heap.size w wr) (fun u _ => len - (intOf u).toNat)
  case atStart => exact ⟨0, 0, 0, Nat.zero_le _, rfl, by rw [filled_zero]; exact m2, B2.out⟩
  case round =>
    obtain ⟨k, kd, a, hk, rfl, mr, hbr⟩ := hrel
    have BR := Lib.hid hbr
    clear hbr m2
    by_cases hl : k < len
    · obtain ⟨b, off, rfl, hcell⟩ := (hc.out.next BR.out).at hl
      have l2 : (k : Int) < (len : Int) := by omega
      go_wp2_with fail
      refine (own_store mr hl hlen).mono ?_
      rintro e w4 ⟨rfl, m4, hx⟩
      have B4 := Lib.hid (below_else BR.out hg' hh' hx)
      clear hx mr
      go_wp2_with fail
      go_roundw
      case rel => exact ⟨k + 1, 2, k, by omega, by go_num, m4, B4.out⟩
      case measure => simp [intOf]; omega
    · obtain rfl : k = len := by omega
      go_wp2_with fail
      refine (words_any g h _ _ mr).mono ?_
      rintro e w5 ⟨b, he, hw, hbl, hb⟩
      have he' : e = .returned (.slice (some ⟨b, 0, none⟩) k k) := by rw [he]; simp [filled_len]
      subst he'
      have m5 := mr.next hb
      have B5 := Lib.hid (below_then BR.out hb)
      have hgb : g ≠ b := by have := mr.lt.1; omega
      have hhb : h ≠ b := by have := mr.lt.2; omega
      have hbw : w.heap.size ≤ b := Nat.le_trans BR.out.size hbl
      clear hb he mr
      go_wp2_with fail
      go_loopw [36] (fun u wq => ∃ (q : Nat) (ys : List Nat), q ≤ k ∧ u = .int .i64 q ∧ ys.length = k ∧ wq.heap[b]? = some (.cells (wordsOf ys) 30 (0, 0)) ∧ MemAt wq g h ⟨filled f k k, k, 0, kd, a⟩ ∧ Below w.heap.size w wq) (fun u _ => k - (intOf u).toNat)
      case atStart => exact ⟨0, filled f k k, Nat.zero_le _, rfl, filled_len _ _ _, hw, m5, B5.out⟩
      case round =>
        obtain ⟨q, ys, hq, rfl, hys, hwq, mq, hbq⟩ := hrel
        have BQ := Lib.hid hbq
        clear hbq m5 hw
        by_cases hl2 : q < k
        · have cq := words_at hwq (j := q) (by omega)
          have zq := frozen_of (j := q) hwq
          have HM := Lib.hid (fun x : Nat => mq.aside (j := q) hgb hhb (.int .u64 (x : Int)))
          have HW := Lib.hid (fun x : Nat => words_set (j := q) hwq x)
          have HY := Lib.hid hys
          generalize ys.getD q 0 = y at *
          have HV : Hid (IntKind.u64.wrap ((y : Int) + 1) = (((y + 1) % 18446744073709551616 : Nat) : Int)) := by
            show IntKind.u64.wrap ((y : Int) + 1) = _
            rw [IntKind.wrap_u64]; omega
          have l3 : (q : Int) < (k : Int) := by omega
          clear hwq mq hys
          go_wp2_with fail
          rw [HV.out]
          go_roundw
          case rel => exact ⟨q + 1, ys.set q ((y + 1) % 18446744073709551616), by omega, by go_num, by rw [List.length_set]; exact HY.out, HW.out _, HM.out _, BQ.out.setCell hbw _⟩
          case measure => simp [intOf]; omega
        · obtain rfl : q = k := by omega
          clear hwq
          go_wp2_with fail
          go_loop [48] (fun u => ∃ i : Nat, i ≤ q ∧ u = .int .i64 i) (fun u => q - (intOf u).toNat)
          case atStart => exact ⟨0, Nat.zero_le _, rfl⟩
          case round =>
            obtain ⟨i, hi, rfl⟩ := hrel
            by_cases hl3 : i < q
            · obtain ⟨b2, off, rfl, hcell⟩ := (hc.out.next BQ.out).at hl3
              have l2 : (i : Int) < (q : Int) := by omega
              go_wp2_with fail
              refine (own_peek mq hl3).mono ?_
              rintro e w' ⟨rfl, rfl⟩
              go_wp2_with fail
              go_round
              case rel => exact ⟨i + 1, by omega, by go_num⟩
              case measure => simp [intOf]; omega
            · obtain rfl : i = q := by omega
              by_cases hn : 65536 < n
              · have dn : decide (65536 < n) = true := by simpa using hn
                go_wp2_with fail
                go_ret
                exact ⟨rfl, BQ.out⟩
              · have dn : decide (65536 < n) = false := by simpa using hn
                clear hn
                have dn2 : n ≤ 65536 := by simpa using dn
                go_wp2_with fail
                refine (new_any n _ dn2).mono ?_
                rintro e w7 ⟨g7, h7, rfl, m7, hb7⟩
                have B7 := Lib.hid (below_then BQ.out hb7)
                clear hb7
                go_wp2_with fail
                refine (fresh_len _ m7).mono ?_
                rintro e w' ⟨rfl, rfl⟩
                go_wp2_with fail
                all_goals
                  go_ret
                  exact ⟨ret_true (by simp; omega), B7.out⟩

set_option maxHeartbeats 1000000 in
theorem own_many (n : Int) (len cap : Nat) (ad : Option Addr) (w : World) (hlen : ¬ len ≤ 200) (hlen2 : len < 9223372036854775808) :
    Calls Try.prog 6 #[.int .i64 n, .slice ad len cap] w fun e w' => e = .returned (.bool true) ∧ Below w.heap.size w w' := by
  have l1 : (200 : Int) < (len : Int) := by omega
  go_enter Try.func6, Try.ntmps6
  go_wp2_with fail
  refine (speaks3 _).mono ?_
  rintro e w1 ⟨rfl, hb⟩
  have HB := Lib.hid hb
  clear hb
  go_wp2_with fail
  go_ret
  exact ⟨rfl, HB.out⟩

theorem own_walk (n : Int) (a : Option Addr) (len cap : Nat) (zs : List Int) (w : World) (hz : IsRow .u64 w a len cap zs) :
    Calls Try.prog 6 #[.int .i64 n, .slice a len cap] w fun e w' => e = .returned (.bool true) ∧ Below w.heap.size w w' := by
  obtain ⟨f, hf⟩ := hz.row
  have hl := hz.len
  unfold maxLen at hl
  by_cases h2 : len ≤ 200
  · exact own_few n len cap a f w h2 hf
  · exact own_many n len cap a w h2 (by omega)

end Go.Proofs.Ytnjgajkcoahefaa
