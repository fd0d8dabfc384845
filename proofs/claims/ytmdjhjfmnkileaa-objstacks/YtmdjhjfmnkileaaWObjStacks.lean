/-
  The walk of the statement ObjStacks: whatever comes and goes, a stack answers, and has, what the document says.
-/
import Derived.Test.YtmdjhjfmnkileaaWObjUndoes
import Derived.Test.YtmdjhjfmnkileaaObjP
namespace Go.Proofs.Ytmdjhjfmnkileaa
open Go.RowKit Go.Sort

set_option maxRecDepth 20000 in
set_option maxHeartbeats 4000000 in
theorem stacks_walk (r : Int) (a : Option Addr) (len cap : Nat) (f : Nat → Op2) (w : World) (h : Hid (RowO w a len f)) (hl : len < 9223372036854775808) :
    Calls Try.prog 4 #[.int .i64 r, .slice a len cap] w fun e w' => e = .returned (.bool true) ∧ Below w.heap.size w w' := by
  go_enter Try.func4, Try.ntmps4
  go_wp2_with fail
  refine (speaks9 _).mono ?_
  rintro e w1 ⟨rfl, hb⟩
  have B1 := Lib.hid hb
  clear hb
  by_cases k1 : 200 < len
  · have d1 : decide (200 < len) = true := by simpa using k1
    have d1' : decide ((200 : Int) < (len : Int)) = true := by simp; omega
    go_wp2_with fail
    go_ret
    exact ⟨rfl, B1.out⟩
  have d1 : decide (200 < len) = false := by simpa using k1
  have d1' : decide ((200 : Int) < (len : Int)) = false := by simp; omega
  have OK := Lib.hid (okay_ops h.out len)
  have N2 := Lib.hid (heap_new w1 (.cells #[.int .i64 r] 36))
  have B2 := Lib.hid (below_two B1.out (box1 w1 (.cells #[.int .i64 r] 36)))
  have RS := Lib.hid fun w1 h1 => replay_s r a len cap f w1 h1 (by omega)
  have PA := Lib.hid fun w1 h1 => pile_any r (roomN r) a len cap f w1 h1 (by omega) (Lib.hid rfl)
  have SW := Lib.hid fun w1 => swords_any r w1
  have LT := Lib.hid (repW_lt (some r) (opsOf f len) OK.out)
  have LA := Lib.hid (repA_lt (some r) (opsOf f len) OK.out)
  have LAN : Hid ((repA (some r) (opsOf f len)).length = len) := by show _ = _; rw [repA_len, opsOf_len]
  rw [rep_pile] at LT
  have PL := pileN_len (roomN r) (opsOf f len)
  have hRm := room_le r
  have RE : 1 + min (max r 0) 1000 = ((roomN r + 1 : Nat) : Int) := by rw [room_eq]; omega
  have PLT : Hid (∀ x ∈ pileN (roomN r) (opsOf f len), x < 18446744073709551616) := fun x hx => LT.out x (by simp [stkL, hx])
  generalize pileN (roomN r) (opsOf f len) = P at *
  generalize hR : roomN r = R at *
  have HR := Lib.hid hR
  have HRE := Lib.hid RE
  clear hR RE
  have LL : Hid ((stkL R P).length = R + 1) := stkL_len PL
  have L0 : Hid ((stkL R P).getD 0 0 = P.length) := rfl
  have LS : Hid (∀ j, (stkL R P).getD (j + 1) 0 = P.getD j 0) := fun j => stkL_succ R P j
  generalize stkL R P = L at *
  have ls := B1.out.size
  go_wp2_with fail
  generalize w1.alloc (.cells #[.int .i64 r] 36) = w2 at *
  generalize hS : w1.heap.size = sb at *
  refine (RS.out _ (Lib.hid (h.out.next B2.out))).mono ?_
  rintro e w3 ⟨va, b, rfl, h1, h2, _, h4, hb⟩
  have N3 : Hid (w3.heap[sb]? = _) := (hb.block _ (heap_lt N2.out)).trans N2.out
  have B3 := Lib.hid (below_two B2.out hb)
  have Z3 := Lib.hid h2
  obtain ⟨a3, c3, e3, R3'⟩ := OpRow.row h1 LA.out
  rw [LAN.out] at e3 R3'
  subst e3
  have R3 := Lib.hid R3'
  clear hb h1 h2 h4 R3' RS N2
  go_wp2_with fail
  refine (PA.out _ (Lib.hid (h.out.next B3.out))).mono ?_
  rintro e w4 ⟨vb, vp, rfl, h1, h2, hb⟩
  have N4 : Hid (w4.heap[sb]? = _) := (hb.block _ (heap_lt N3.out)).trans N3.out
  have B4 := Lib.hid (below_two B3.out hb)
  have Z4 : Hid (w4.heap[b]? = _) := (hb.block _ (heap_lt Z3.out)).trans Z3.out
  have R34 := Lib.hid (R3.out.next hb)
  obtain ⟨a4, c4, e4, R4'⟩ := OpRow.row h1 LA.out
  rw [LAN.out] at e4 R4'
  subst e4
  have R4 := Lib.hid R4'
  obtain ⟨a5, c5, e5, R5'⟩ := WRw.row h2 PLT.out
  subst e5
  have R5 := Lib.hid R5'
  clear hb h1 h2 R4' R5' PA N3 Z3 R3
  go_wp2_with fail
  refine (same_any a3 a4 len c3 c4 _ _ _ R34 R4 (Lib.hid fun j _ => rfl) (by omega)).mono ?_
  rintro e w5 ⟨rfl, hb⟩
  have B5 := Lib.hid (below_two B4.out hb)
  have N5 : Hid (w5.heap[sb]? = _) := (hb.block _ (heap_lt N4.out)).trans N4.out
  have Z5 : Hid (w5.heap[b]? = _) := (hb.block _ (heap_lt Z4.out)).trans Z4.out
  have R55 := Lib.hid (R5.out.next hb)
  have s5 : w5.cell? ⟨sb, 0, none⟩ = some (.int .i64 r) := by rw [cell_of N5.out]; rfl
  clear hb
  go_wp2_with fail
  refine (SW.out _).mono ?_
  rintro e w6 ⟨rfl, hb⟩
  have B6 := Lib.hid (below_two B5.out hb)
  have Z6 : Hid (w6.heap[b]? = _) := (hb.block _ (heap_lt Z5.out)).trans Z5.out
  have R6 := Lib.hid (R55.out.next hb)
  have z6 := words_at Z6.out (show 0 < L.length by rw [LL.out]; omega)
  rw [L0.out] at z6
  have EWP : IntKind.u64.wrap (P.length : Int) = (P.length : Int) := by simp only [IntKind.wrap_u64]; omega
  clear hb
  rcases (show r < 0 ∨ (0 ≤ r ∧ r ≤ 1000) ∨ 1000 < r by omega) with kr | kr | kr
  · have eR : R = 0 := by have := HRE.out; omega
    subst eR
    go_wp2_with fail
    go_loopw [65] (fun u wr => ∃ (i : Nat), i ≤ 0 ∧ u = .int .i64 i ∧ Below w6.heap.size w6 wr) (fun u _ => 0 - (intOf u).toNat)
    case atStart => exact ⟨0, Nat.zero_le _, rfl, Below.refl _ _⟩
    case round =>
      obtain ⟨i, hi, rfl, hb⟩ := hrel
      have XQ := Lib.hid hb
      clear hb
      by_cases hl3 : i < 0
      · exact absurd hl3 (by omega)
      · obtain rfl : i = 0 := by omega
        go_wp2_with fail
        go_ret
        exact ⟨rfl, below_two B6.out XQ.out⟩
  · obtain ⟨k2, k3⟩ := kr
    obtain rfl : r = (R : Int) := by have := HRE.out; omega
    by_cases kR : R = 0
    · subst kR
      go_wp2_with fail
      go_loopw [65] (fun u wr => ∃ (i : Nat), i ≤ 0 ∧ u = .int .i64 i ∧ Below w6.heap.size w6 wr) (fun u _ => 0 - (intOf u).toNat)
      case atStart => exact ⟨0, Nat.zero_le _, rfl, Below.refl _ _⟩
      case round =>
        obtain ⟨i, hi, rfl, hb⟩ := hrel
        have XQ := Lib.hid hb
        clear hb
        by_cases hl3 : i < 0
        · exact absurd hl3 (by omega)
        · obtain rfl : i = 0 := by omega
          go_wp2_with fail
          go_ret
          exact ⟨rfl, below_two B6.out XQ.out⟩
    · have kR' : ¬ (R : Int) = 0 := by omega
      go_wp2_with fail
      go_loopw [65] (fun u wr => ∃ (i : Nat), i ≤ R ∧ u = .int .i64 i ∧ Below w6.heap.size w6 wr) (fun u _ => R - (intOf u).toNat)
      case atStart => exact ⟨0, Nat.zero_le _, rfl, Below.refl _ _⟩
      case round =>
        obtain ⟨i, hi, rfl, hb⟩ := hrel
        have XQ := Lib.hid hb
        clear hb
        by_cases hl3 : i < R
        · have l4 : (i : Int) < ((R : Nat) : Int) := by omega
          have l4' : (i : Int) < (R : Int) := by omega
          have y0 := words_at ((XQ.out.block _ (heap_lt Z6.out)).trans Z6.out) (show i + 1 < L.length by rw [LL.out]; omega)
          rw [LS.out i] at y0
          have y1 : wr.cell? ⟨b, 1 + i, none⟩ = some (.int .u64 ((P.getD i 0 : Nat) : Int)) := by rw [Nat.add_comm]; exact y0
          by_cases k3 : i < P.length
          · have d3 : (i : Int) < (P.length : Int) := by omega
            obtain ⟨b1, o1, rfl, x0⟩ := (R6.out.next XQ.out).at k3
            generalize P.getD i 0 = z at *
            go_wp2_with fail
            go_roundw
            case rel => exact ⟨i + 1, by omega, by go_num, XQ.out⟩
            case measure => simp [intOf]; omega
          · have d3 : ¬ (i : Int) < (P.length : Int) := by omega
            have e0 : P.getD i 0 = 0 := by rw [List.getD_eq_getElem?_getD, List.getElem?_eq_none (by omega)]; rfl
            rw [e0] at y0 y1
            go_wp2_with fail
            go_roundw
            case rel => exact ⟨i + 1, by omega, by go_num, XQ.out⟩
            case measure => simp [intOf]; omega
        · obtain rfl : i = R := by omega
          go_wp2_with fail
          go_ret
          exact ⟨rfl, below_two B6.out XQ.out⟩
  · have eR : R = 1000 := by have := HRE.out; omega
    subst eR
    go_wp2_with fail
    go_loopw [65] (fun u wr => ∃ (i : Nat), i ≤ 1000 ∧ u = .int .i64 i ∧ Below w6.heap.size w6 wr) (fun u _ => 1000 - (intOf u).toNat)
    case atStart => exact ⟨0, Nat.zero_le _, rfl, Below.refl _ _⟩
    case round =>
      obtain ⟨i, hi, rfl, hb⟩ := hrel
      have XQ := Lib.hid hb
      clear hb
      by_cases hl3 : i < 1000
      · have l4 : (i : Int) < ((1000 : Nat) : Int) := by omega
        have l4' : (i : Int) < (1000 : Int) := by omega
        have y0 := words_at ((XQ.out.block _ (heap_lt Z6.out)).trans Z6.out) (show i + 1 < L.length by rw [LL.out]; omega)
        rw [LS.out i] at y0
        have y1 : wr.cell? ⟨b, 1 + i, none⟩ = some (.int .u64 ((P.getD i 0 : Nat) : Int)) := by rw [Nat.add_comm]; exact y0
        by_cases k3 : i < P.length
        · have d3 : (i : Int) < (P.length : Int) := by omega
          obtain ⟨b1, o1, rfl, x0⟩ := (R6.out.next XQ.out).at k3
          generalize P.getD i 0 = z at *
          go_wp2_with fail
          go_roundw
          case rel => exact ⟨i + 1, by omega, by go_num, XQ.out⟩
          case measure => simp [intOf]; omega
        · have d3 : ¬ (i : Int) < (P.length : Int) := by omega
          have e0 : P.getD i 0 = 0 := by rw [List.getD_eq_getElem?_getD, List.getElem?_eq_none (by omega)]; rfl
          rw [e0] at y0 y1
          go_wp2_with fail
          go_roundw
          case rel => exact ⟨i + 1, by omega, by go_num, XQ.out⟩
          case measure => simp [intOf]; omega
      · obtain rfl : i = 1000 := by omega
        go_wp2_with fail
        go_ret
        exact ⟨rfl, below_two B6.out XQ.out⟩
end Go.Proofs.Ytmdjhjfmnkileaa
