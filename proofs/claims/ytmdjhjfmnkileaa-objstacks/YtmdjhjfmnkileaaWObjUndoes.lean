/-
  The walk of the statement ObjUndoes: what comes on top of a stack with room goes again, and leaves it as it was.
-/
import Derived.Test.YtmdjhjfmnkileaaObjM
import Derived.Test.YtmdjhjfmnkileaaAppM
namespace Go.Proofs.Ytmdjhjfmnkileaa
open Go.RowKit Go.Sort

theorem replay_s (r : Int) (a : Option Addr) (len cap : Nat) (f : Nat → Op2) (w : World) (h : Hid (RowO w a len f)) (hl : len ≤ 1048576) :
    Calls Try.prog 9 #[.iface 36 (.agg #[.int .i64 r]), .slice a len cap] w fun e w' => ∃ va b, e = .returned (.tuple #[va, .slice (some ⟨b, 0, none⟩) (roomN r + 1) (roomN r + 1)]) ∧ OpRow w' va (repA (some r) (opsOf f len)) ∧ w'.heap[b]? = some (.cells (wordsOf (stkL (roomN r) (pileN (roomN r) (opsOf f len)))) 29 (0, 0)) ∧ (∀ q, va.ownBlock = some q → w.heap.size ≤ q ∧ q ≠ b) ∧ w.heap.size ≤ b ∧ Below w.heap.size w w' := by
  have := replay_any (some r) a len cap f w h hl
  rw [rep_pile] at this
  exact this
set_option maxRecDepth 20000 in
set_option maxHeartbeats 4000000 in
theorem undoes_walk (m : Nat) (a : Option Addr) (len cap : Nat) (f : Nat → Op2) (x : Nat) (w : World) (h : Hid (RowO w a len f)) (hl : len < 9223372036854775808) (hm : m < 256) (hx : x < 18446744073709551616) :
    Calls Try.prog 6 #[.int .u8 m, .slice a len cap, .int .u64 x] w fun e w' => e = .returned (.bool true) ∧ Below w.heap.size w w' := by
  have EWM : IntKind.i64.wrap (m : Int) = (m : Int) := by simp only [IntKind.wrap_i64]; omega
  go_enter Try.func6, Try.ntmps6
  go_wp2_with fail
  refine (speaks9 _).mono ?_
  rintro e w1 ⟨rfl, hb⟩
  have B1 := Lib.hid hb
  clear hb
  by_cases k1 : 100 < len
  · have d1 : decide (100 < len) = true := by simpa using k1
    have d1' : decide ((100 : Int) < (len : Int)) = true := by simp; omega
    go_wp2_with fail
    go_ret
    exact ⟨rfl, B1.out⟩
  have d1 : decide (100 < len) = false := by simpa using k1
  have d1' : decide ((100 : Int) < (len : Int)) = false := by simp; omega
  have OK := Lib.hid (okay_ops h.out len)
  have N2 := Lib.hid (heap_new w1 (.cells #[.int .i64 (m : Int)] 36))
  have B2 := Lib.hid (below_two B1.out (box1 w1 (.cells #[.int .i64 (m : Int)] 36)))
  have RS := Lib.hid fun w1 h1 => replay_s (m : Int) a len cap f w1 h1 (by omega)
  have RM := Lib.hid (room_u8 m hm)
  have LT := Lib.hid (repW_lt (some (m : Int)) (opsOf f len) OK.out)
  have PL := Lib.hid (pileN_len m (opsOf f len))
  rw [rep_pile] at LT
  have SP := Lib.hid fun P op hP => stk_pile (m : Int) P op hP
  rw [RM.out] at RS LT SP
  generalize pileN m (opsOf f len) = P at *
  have ls := B1.out.size
  go_wp2_with fail
  generalize w1.alloc (.cells #[.int .i64 (m : Int)] 36) = w2 at *
  generalize hS : w1.heap.size = sb at *
  refine (RS.out _ (Lib.hid (h.out.next B2.out))).mono ?_
  rintro e w3 ⟨va, b, rfl, _, h2, _, h4, hb⟩
  have lsb := heap_lt N2.out
  have N3 : Hid (w3.heap[sb]? = _) := (hb.block _ lsb).trans N2.out
  have B3 := Lib.hid (below_two B2.out hb)
  have Z3 := Lib.hid h2
  have ls3 := hb.size
  clear hb h2 RS N2
  generalize hLL : stkL m P = L at *
  have LL : Hid (L.length = m + 1) := by show _ = _; rw [← hLL, stkL_len PL.out]
  have L0 : Hid (L.getD 0 0 = P.length) := by show _ = _; rw [← hLL]; rfl
  have W4 := Lib.hid (WRw.empty w3)
  have Y4 := box1 w3 (.cells #[] 29)
  have B4 := Lib.hid (below_two B3.out Y4)
  have Z4 : Hid (_ = _) := (Y4.block _ (heap_lt Z3.out)).trans Z3.out
  have N4 : Hid (_ = _) := (Y4.block _ (heap_lt N3.out)).trans N3.out
  have e4 : (w3.alloc (.cells #[] 29)).heap.size = w3.heap.size + 1 := by simp
  have lb := heap_lt Z3.out
  have rw0 := words_row Z4.out LT.out
  rw [LL.out] at rw0
  obtain ⟨v', w5, hrun, p1, p2, p3⟩ := app_manyW (c := m + 1) W4.out rw0 (by intro e; cases e) (by simp; omega) 24
  rw [show listOf (fun j => L.getD j 0) (m + 1) = L by rw [← LL.out]; exact listOf_getD L, List.nil_append] at p1
  have Z5 : Hid (w5.heap[b]? = _) := (p2.block _ (by omega) (by simp [Value.ownBlock]; omega)).trans Z4.out
  have N5 : Hid (w5.heap[sb]? = _) := (p2.block _ (by omega) (by simp [Value.ownBlock]; omega)).trans N4.out
  have B5 := Lib.hid (app_below' B4.out B4.out.size p2 (fun k hk => by simp [Value.ownBlock] at hk; omega))
  have Q5 : Hid (∀ q, v'.ownBlock = some q → q ≠ b ∧ w.heap.size ≤ q) := by
    intro q hq
    rcases p3 with e | e
    · rw [e] at hq; simp [Value.ownBlock] at hq; omega
    · rw [e] at hq; simp at hq; omega
  have W5 := Lib.hid p1
  obtain ⟨a5, c5, rfl⟩ := p1.form
  rw [LL.out] at hrun W5 Q5
  clear p1 p2 p3 rw0 Y4 Z4 N4 B4 W4
  have s5 : w5.cell? ⟨sb, 0, none⟩ = some (.int .i64 (m : Int)) := by rw [cell_of N5.out]; rfl
  have AP := Lib.hid fun A B (M : List Nat) w1 h1 h2 h3 => sapply_any (m : Int) b (m + 1) (m + 1) A B M w1 h1 (by rw [RM.out]) h2 h3
  go_wp2_with (at_builtin; refine wpList_append_by rfl _ _ 24 24 rfl (.slice (some ⟨w3.heap.size, 0, none⟩) 0 0) (.slice (some ⟨b, 0, none⟩) (m + 1) (m + 1)) (by rfl) (by rfl) hrun ?_)
  refine (AP.out 1 x L w5 Z5 (by rw [LL.out]; exact Nat.le_refl _) LT).mono ?_
  have A1 : Hid (obApp (some (m : Int)) L (1, x) = (stkL m (pileApp m P (1, x)).1, (pileApp m P (1, x)).2)) := by show stkApp (m : Int) L (1, x) = _; rw [← hLL]; exact SP.out P (1, x) PL.out
  rw [A1.out]
  rintro e w6 ⟨rfl, h6, o6⟩
  have B6 := Lib.hid (B5.out.trans (o6.below (B := w.heap.size) (by simp; omega) B5.out.size))
  have W6 := Lib.hid (WRw.stay W5.out o6 (fun k hk => by have := (Q5.out k hk).1; simpa using this))
  have N6 : Hid (w6.heap[sb]? = _) := (o6.block _ (heap_lt N5.out) (by simp; omega)).trans N5.out
  have Z6 := Lib.hid h6
  clear o6 h6
  have s6 : w6.cell? ⟨sb, 0, none⟩ = some (.int .i64 (m : Int)) := by rw [cell_of N6.out]; rfl
  by_cases k2 : P.length < m
  · have E1 : pileApp m P (1, x) = (P ++ [x], (1, 0)) := by unfold pileApp; rw [if_pos ⟨rfl, k2⟩]
    have E2 : pileApp m (P ++ [x]) (2, 0) = (P, (1, x)) := by
      unfold pileApp; rw [if_neg (by simp), if_pos ⟨rfl, by simp⟩]; simp
    rw [E1] at Z6 ⊢
    have Y7 := box1 w6 (.cells #[.int .u64 1, .int .u64 0] 40)
    have B7 := Lib.hid (below_two B6.out Y7)
    have W7 := Lib.hid (WRw.stay W6.out (Only.of_below (l := []) Y7) (by simp))
    have Z7 : Hid (_ = _) := (Y7.block _ (heap_lt Z6.out)).trans Z6.out
    have T7 := Lib.hid (heap_new w6 (.cells #[.int .u64 1, .int .u64 0] 40))
    have s7 : (w6.alloc (.cells #[.int .u64 1, .int .u64 0] 40)).cell? ⟨sb, 0, none⟩ = some (.int .i64 (m : Int)) := (Y7.cell (p := ⟨sb, 0, none⟩) (heap_lt N6.out)).trans s6
    have t7 : (w6.alloc (.cells #[.int .u64 1, .int .u64 0] 40)).cell? ⟨w6.heap.size, 0, none⟩ = some (.int .u64 1) := by rw [cell_of T7.out]; rfl
    have lb6 := heap_lt Z6.out
    clear Y7
    go_wp2_with fail
    generalize w6.alloc (.cells #[.int .u64 1, .int .u64 0] 40) = w7 at *
    generalize hta : w6.heap.size = ta at *
    refine (AP.out 2 0 (stkL m (P ++ [x])) w7 Z7 (by rw [stkL_len (by simp; omega)]; exact Nat.le_refl _) (Lib.hid fun y hy => ?_)).mono ?_
    · rw [← (stkL_push k2 x)] at hy
      rw [hLL] at hy
      exact set_lt (set_lt LT.out _ hx) _ (by omega) y hy
    have A2 : Hid (obApp (some (m : Int)) (stkL m (P ++ [x])) (2, 0) = (stkL m P, (1, x))) := by show stkApp (m : Int) _ (2, 0) = _; rw [SP.out (P ++ [x]) (2, 0) (by simp; omega), E2]
    rw [A2.out]
    rintro e w8 ⟨rfl, h8, o8⟩
    have B8 := Lib.hid (B7.out.trans (o8.below (B := w.heap.size) (by simp; omega) B7.out.size))
    have W8 := Lib.hid (WRw.stay W7.out o8 (fun k hk => by have := (Q5.out k hk).1; simpa using this))
    have T8 : Hid (w8.heap[ta]? = _) := (o8.block _ (heap_lt T7.out) (by simp; omega)).trans T7.out
    rw [hLL] at h8
    have Z8 := Lib.hid h8
    clear o8 h8 A2 A1 E1 E2
    have Y9 := box1 w8 (.cells #[.int .u64 1, .int .u64 (x : Int)] 40)
    have B9 := Lib.hid (below_two B8.out Y9)
    have W9 := Lib.hid (WRw.stay W8.out (Only.of_below (l := []) Y9) (by simp))
    have Z9 : Hid (_ = _) := (Y9.block _ (heap_lt Z8.out)).trans Z8.out
    have T9 : Hid (_ = _) := (Y9.block _ (heap_lt T8.out)).trans T8.out
    have U9 := Lib.hid (heap_new w8 (.cells #[.int .u64 1, .int .u64 (x : Int)] 40))
    clear Y9
    go_wp2_with fail
    generalize w8.alloc (.cells #[.int .u64 1, .int .u64 (x : Int)] 40) = w9 at *
    generalize w8.heap.size = tb at *
    obtain ⟨ar, cr, e9, R9⟩ := WRw.row W9.out LT.out
    rw [LL.out] at e9 R9
    cases e9
    go_loopw [58] (fun u wr => ∃ (i : Nat), i ≤ m + 1 ∧ u = .int .i64 i ∧ Below w9.heap.size w9 wr) (fun u _ => m + 1 - (intOf u).toNat)
    case atStart => exact ⟨0, Nat.zero_le _, rfl, Below.refl _ _⟩
    case round =>
      obtain ⟨i, hi, rfl, hb⟩ := hrel
      have XQ := Lib.hid hb
      clear hb
      by_cases hl3 : i < m + 1
      · have l4 : (i : Int) < ((m + 1 : Nat) : Int) := by omega
        have l4' : (i : Int) < (m : Int) + 1 := by omega
        obtain ⟨b1, o1, rfl, x0⟩ := (R9.next XQ.out).at hl3
        have y0 := words_at ((XQ.out.block _ (heap_lt Z9.out)).trans Z9.out) (show i < L.length by rw [LL.out]; exact hl3)
        generalize L.getD i 0 = z at *
        go_wp2_with fail
        have k0 := cell_regrown x0
        have k1 := cell_regrown y0
        refine wp_region_quiet_below (by kernel_rfl) (by kernel_rfl) ?_
        repeat (go_big_quiet_step (fail))
        refine wpQuiet_nil ?_
        intro _ hwq
        obtain ⟨⟨dq, osq⟩, hwq2⟩ := hwq
        subst hwq2
        have HQ := Lib.hid (below_regrown wr dq osq)
        have XQ5 := Lib.hid (below_two XQ.out HQ.out)
        generalize Sort.grow (redrawn wr dq) osq = w10 at *
        clear HQ k0 k1
        clear x0 y0
        go_wp2_with fail
        go_roundw
        case rel => exact ⟨i + 1, by omega, by go_num, XQ5.out⟩
        case measure => simp [intOf]; omega
      · obtain rfl : i = m + 1 := by omega
        have t10 : wr.cell? ⟨ta, 0, none⟩ = some (.int .u64 1) := by rw [cell_of ((XQ.out.block _ (heap_lt T9.out)).trans T9.out)]; rfl
        have t11 : wr.cell? ⟨ta, 1, none⟩ = some (.int .u64 0) := by rw [cell_of ((XQ.out.block _ (heap_lt T9.out)).trans T9.out)]; rfl
        have u10 : wr.cell? ⟨tb, 0, none⟩ = some (.int .u64 1) := by rw [cell_of ((XQ.out.block _ (heap_lt U9.out)).trans U9.out)]; rfl
        have u11 : wr.cell? ⟨tb, 1, none⟩ = some (.int .u64 (x : Int)) := by rw [cell_of ((XQ.out.block _ (heap_lt U9.out)).trans U9.out)]; rfl
        go_wp2_with fail
        go_ret
        exact ⟨rfl, below_two B9.out XQ.out⟩
  · have E1 : pileApp m P (1, x) = (P, (0, 0)) := by unfold pileApp; rw [if_neg (by simp; omega), if_neg (by simp)]
    rw [E1] at Z6 ⊢
    have Y7 := box1 w6 (.cells #[.int .u64 0, .int .u64 0] 40)
    have B7 := Lib.hid (below_two B6.out Y7)
    have W7 := Lib.hid (WRw.stay W6.out (Only.of_below (l := []) Y7) (by simp))
    have T7 := Lib.hid (heap_new w6 (.cells #[.int .u64 0, .int .u64 0] 40))
    have t7 : (w6.alloc (.cells #[.int .u64 0, .int .u64 0] 40)).cell? ⟨w6.heap.size, 0, none⟩ = some (.int .u64 0) := by rw [cell_of T7.out]; rfl
    have t8 : (w6.alloc (.cells #[.int .u64 0, .int .u64 0] 40)).cell? ⟨w6.heap.size, 1, none⟩ = some (.int .u64 0) := by rw [cell_of T7.out]; rfl
    obtain ⟨ar, cr, e9, R9⟩ := WRw.row W7.out LT.out
    rw [LL.out] at e9 R9
    cases e9
    obtain ⟨b1, o1, rfl, x0⟩ := R9.at (show 0 < m + 1 by omega)
    simp only [L0.out, Nat.add_zero] at x0
    have EPM : P.length = m := by have := PL.out; omega
    rw [EPM] at x0
    clear Y7 A1 E1
    go_wp2_with fail
    go_ret
    exact ⟨rfl, B7.out⟩
end Go.Proofs.Ytmdjhjfmnkileaa
