/-
  NoteApart: the walk.
-/
import Derived.Test.YtagacljfpakgnabNoteAp
import Derived.Test.YtagacljfpakgnabRowNt
namespace Go.Proofs.Ytagacljfpakgnab
open Go.RowKit Go.Sort Go.Maps
attribute [local go_sem] Oper.semAt_some

set_option maxRecDepth 20000 in
set_option maxHeartbeats 8000000 in
theorem napart_walk (a1 : Option Addr) (n1 c1 : Nat) (Z0 Z1 Z2 Z3 Z4 Z5 Z6 : Nat → Int) (i : Int) (w : World) (hs : Hid (RowNt w a1 n1 Z0 Z1 Z2 Z3 Z4 Z5 Z6)) :
    Calls Try.prog 5 #[.slice a1 n1 c1, .int .i64 i] w fun e w' => e = .returned (.bool true) ∧ Below w.heap.size w w' := by
  go_enter Try.func5, Try.ntmps5
  go_wp2_with fail
  refine (speaks18_any w).mono ?_
  rintro e w1 ⟨rfl, hb⟩
  have E1 := Lib.hid hb
  clear hb
  by_cases hfew : 200 < (n1 : Int)
  · have h5 : decide (200 < (n1 : Int)) = true := by simpa using hfew
    go_wp2_with fail
    go_ret
    exact ⟨rfl, E1.out⟩
  have h5 : decide (200 < (n1 : Int)) = false := by simpa using hfew
  have hb := (box1 w1 (.cells #[.slice none 0 0, .map none] 27)).trans ((box1 (w1.alloc (.cells #[.slice none 0 0, .map none] 27)) (.cells #[.slice none 0 0, .map none] 27)).mono (box1 w1 (.cells #[.slice none 0 0, .map none] 27)).size)
  have T0 := Lib.hid (two_new w1)
  have LN : Hid (w.heap.size ≤ w1.heap.size) := Lib.hid E1.out.size
  have E2 := Lib.hid (E1.out.trans (hb.mono E1.out.size))
  have Q0 : Hid (w1.heap.size ≤ ((w1.alloc (.cells #[.slice none 0 0, .map none] 27)).alloc (.cells #[.slice none 0 0, .map none] 27)).heap.size) := Lib.hid hb.size
  clear hb E1
  go_upto_region 6 with fail
  generalize (w1.alloc (.cells #[.slice none 0 0, .map none] 27)).alloc (.cells #[.slice none 0 0, .map none] 27) = w2 at *
  go_wp2_with fail
  go_loopw [21] (fun u21 wr => ∃ (j : Nat) (l : List Ev), j ≤ n1 ∧ u21 = .int .i64 (j : Nat) ∧ l.length ≤ j ∧ Hid (Two wr w1.heap.size w1.heap.size (w1.heap.size + 1) l (ofW i l)) ∧ Hid (w1.heap.size ≤ wr.heap.size) ∧ Hid (Below w.heap.size w wr)) (fun u21 _ => n1 - (intOf u21).toNat)
  case atStart => exact ⟨0, [], by omega, rfl, by simp, T0, Q0, E2⟩
  case round =>
    obtain ⟨j, l, hj, rfl, hl, TW, NN, EE⟩ := hrel
    by_cases hlt : j < n1
    · have l3 : (j : Int) < (n1 : Int) := by omega
      have Zr := Lib.hid (hs.out.next EE.out)
      obtain ⟨ab, off, rfl, hab, q0, q1, q2, q3, q4, q5, q6⟩ := Zr.out.at hlt
      obtain ⟨_, w1', _, _, _, _, _⟩ := Zr.out.1.2 j hlt
      clear Zr
      generalize Z0 j = k0 at *
      generalize Z1 j = k1 at *
      generalize Z2 j = k2 at *
      generalize Z3 j = k3 at *
      generalize Z4 j = k4 at *
      generalize Z5 j = k5 at *
      generalize Z6 j = k6 at *
      have hb := box1 wr (.cells #[.int .i64 k0, .int .i64 k1, .int .i64 k2, .int .i64 k3, .int .i64 k4, .int .i64 k5, .int .i64 k6] 34)
      have T2 := Lib.hid (TW.out.next hb)
      have E2' := Lib.hid (EE.out.trans (hb.mono EE.out.size))
      have N2 : Hid (w1.heap.size ≤ (wr.alloc (.cells #[.int .i64 k0, .int .i64 k1, .int .i64 k2, .int .i64 k3, .int .i64 k4, .int .i64 k5, .int .i64 k6] 34)).heap.size) := Lib.hid (Nat.le_trans NN.out hb.size)
      clear hb
      have AX : Hid ((wr.alloc (.cells #[.int .i64 k0, .int .i64 k1, .int .i64 k2, .int .i64 k3, .int .i64 k4, .int .i64 k5, .int .i64 k6] 34)).heap[wr.heap.size]? = some (.cells #[.int .i64 k0, .int .i64 k1, .int .i64 k2, .int .i64 k3, .int .i64 k4, .int .i64 k5, .int .i64 k6] 34 (0, 0))) := heap_new wr _
      by_cases hg : k2 < 1
      · have g1 : decide (k2 < 1) = true := by simpa using hg
        go_wp2_with fail
        go_roundw
        case rel => exact ⟨j + 1, l, by omega, by push_cast; rfl, by omega, T2, N2, E2'⟩
        case measure => simp [intOf]; omega
      · have g1 : decide (k2 < 1) = false := by simpa using hg
        have hb := box1 (wr.alloc (.cells #[.int .i64 k0, .int .i64 k1, .int .i64 k2, .int .i64 k3, .int .i64 k4, .int .i64 k5, .int .i64 k6] 34)) (.cells #[.pointer (some ⟨w1.heap.size, 0, none⟩), .pointer (some ⟨(w1.heap.size + 1), 0, none⟩)] 42)
        have T3 := Lib.hid (T2.out.next hb)
        have E3 := Lib.hid (E2'.out.trans (hb.mono E2'.out.size))
        have N3 : Hid (w1.heap.size ≤ ((wr.alloc (.cells #[.int .i64 k0, .int .i64 k1, .int .i64 k2, .int .i64 k3, .int .i64 k4, .int .i64 k5, .int .i64 k6] 34)).alloc (.cells #[.pointer (some ⟨w1.heap.size, 0, none⟩), .pointer (some ⟨(w1.heap.size + 1), 0, none⟩)] 42)).heap.size) := Lib.hid (Nat.le_trans N2.out hb.size)
        have AX3 := Lib.hid ((hb.block _ (heap_lt AX.out)).trans AX.out)
        have PX3 : Hid (((wr.alloc (.cells #[.int .i64 k0, .int .i64 k1, .int .i64 k2, .int .i64 k3, .int .i64 k4, .int .i64 k5, .int .i64 k6] 34)).alloc (.cells #[.pointer (some ⟨w1.heap.size, 0, none⟩), .pointer (some ⟨(w1.heap.size + 1), 0, none⟩)] 42)).heap[wr.heap.size + 1]? = some (.cells #[.pointer (some ⟨w1.heap.size, 0, none⟩), .pointer (some ⟨(w1.heap.size + 1), 0, none⟩)] 42 (0, 0))) := Lib.hid (by have := heap_new (wr.alloc (.cells #[.int .i64 k0, .int .i64 k1, .int .i64 k2, .int .i64 k3, .int .i64 k4, .int .i64 k5, .int .i64 k6] 34)) (.cells #[.pointer (some ⟨w1.heap.size, 0, none⟩), .pointer (some ⟨(w1.heap.size + 1), 0, none⟩)] 42); rwa [show (wr.alloc (.cells #[.int .i64 k0, .int .i64 k1, .int .i64 k2, .int .i64 k3, .int .i64 k4, .int .i64 k5, .int .i64 k6] 34)).heap.size = wr.heap.size + 1 from by simp] at this)
        clear hb T2 E2' N2 AX
        go_upto_region 11 with fail
        generalize ((wr.alloc (.cells #[.int .i64 k0, .int .i64 k1, .int .i64 k2, .int .i64 k3, .int .i64 k4, .int .i64 k5, .int .i64 k6] 34)).alloc (.cells #[.pointer (some ⟨w1.heap.size, 0, none⟩), .pointer (some ⟨(w1.heap.size + 1), 0, none⟩)] 42)) = w3 at *
        generalize wr.heap.size = PB at *
        go_wp2_with fail
        go_loopw [30] (fun u30 wr => ∃ ii : Nat, ii ≤ 2 ∧ u30 = .int .i64 (ii : Nat) ∧ Hid (Two wr w1.heap.size w1.heap.size (w1.heap.size + 1) (if ii = 0 then l else actL k0 k1 k2 k3 k4 k5 k6 l) (if ii < 2 then ofW i l else ofW i (actL k0 k1 k2 k3 k4 k5 k6 l))) ∧ Hid (wr.heap[PB]? = some (.cells #[.int .i64 k0, .int .i64 k1, .int .i64 k2, .int .i64 k3, .int .i64 k4, .int .i64 k5, .int .i64 k6] 34 (0, 0))) ∧ Hid (wr.heap[PB + 1]? = some (.cells #[.pointer (some ⟨w1.heap.size, 0, none⟩), .pointer (some ⟨(w1.heap.size + 1), 0, none⟩)] 42 (0, 0))) ∧ Hid (w1.heap.size ≤ wr.heap.size) ∧ Hid (Below w.heap.size w wr)) (fun u30 _ => 2 - (intOf u30).toNat)
        case atStart => exact ⟨0, by omega, rfl, T3, AX3, PX3, N3, E3⟩
        case round =>
          obtain ⟨ii, hii, rfl, TX, AX4, PX4, N4, E4⟩ := hrel
          clear T3 AX3 PX3 N3 E3
          have b0' : wr.cell? ⟨PB, 0, none⟩ = some (.int .i64 k0) := by rw [cell_of AX4.out]; rfl
          have b1' : wr.cell? ⟨PB, 1, none⟩ = some (.int .i64 k1) := by rw [cell_of AX4.out]; rfl
          have b2' : wr.cell? ⟨PB, 2, none⟩ = some (.int .i64 k2) := by rw [cell_of AX4.out]; rfl
          have b3' : wr.cell? ⟨PB, 3, none⟩ = some (.int .i64 k3) := by rw [cell_of AX4.out]; rfl
          have b4' : wr.cell? ⟨PB, 4, none⟩ = some (.int .i64 k4) := by rw [cell_of AX4.out]; rfl
          have b5' : wr.cell? ⟨PB, 5, none⟩ = some (.int .i64 k5) := by rw [cell_of AX4.out]; rfl
          have b6' : wr.cell? ⟨PB, 6, none⟩ = some (.int .i64 k6) := by rw [cell_of AX4.out]; rfl
          have p0' : wr.cell? ⟨PB + 1, 0, none⟩ = some (.pointer (some ⟨w1.heap.size, 0, none⟩)) := by rw [cell_of PX4.out]; rfl
          have p1' : wr.cell? ⟨PB + 1, 1, none⟩ = some (.pointer (some ⟨(w1.heap.size + 1), 0, none⟩)) := by rw [cell_of PX4.out]; rfl
          obtain ⟨c1, c2, hc1, hc2⟩ := TX.out.boxes
          obtain rfl | rfl | rfl : ii = 0 ∨ ii = 1 ∨ ii = 2 := by omega
          · have TQ : Hid (Two wr w1.heap.size w1.heap.size (w1.heap.size + 1) l (ofW i l)) := Lib.hid (by simpa using TX.out)
            have pe := bk_other wr (show w1.heap.size ≠ (w1.heap.size + 1) by omega) hc1 hc2
            clear hc1 hc2 TX
            obtain ⟨q, hq⟩ : ∃ q, q = l := ⟨_, rfl⟩
            rw [← hq] at TQ
            have hq' : q.length ≤ 200 := by rw [hq]; omega
            obtain ⟨v, o, S', GO'⟩ := TQ.out.one N4.out
            have S := Lib.hid S'
            have GO := Lib.hid GO'
            clear S' GO'
            by_cases h0 : k0 = 0
            · have HL : actL k0 k1 k2 k3 k4 k5 k6 q = bgL q k1 k3 k4 k2 := by unfold actL;  rw [if_pos h0]
              have gk : (k0 == 0) = true := by simpa using h0
              clear h0
              have CA := Lib.hid (nbegin_any w1.heap.size v o q k1 k3 k4 k2 wr S w1' (by omega))
              go_wp2_with fail
              refine CA.out.mono ?_
              rintro e v4 ⟨rfl, tn⟩
              obtain ⟨T9', bl, keepb⟩ := GO.out _ _ tn
              rw [← HL] at T9'
              have T9 := Lib.hid T9'
              have E9 := Lib.hid (E4.out.trans (bl.mono LN.out))
              have N9 := Lib.hid (Nat.le_trans N4.out bl.size)
              have AX9 := Lib.hid (keepb _ _ _ (by decide) (by decide) AX4.out)
              have PX9 := Lib.hid (keepb _ _ _ (by decide) (by decide) PX4.out)
              clear tn T9' bl keepb CA GO S
              go_wp2_with fail
              go_roundw
              case rel => exact ⟨1, by omega, rfl, Lib.hid (by have := T9.out; rw [hq] at this; simpa using this), AX9, PX9, N9, E9⟩
              case measure => simp [intOf]
            · have gn0 : (k0 == 0) = false := by simpa using h0
              by_cases h1 : k0 = 1
              · have HL : actL k0 k1 k2 k3 k4 k5 k6 q = stL q k1 := by unfold actL; rw [if_neg h0]; rw [if_pos h1]
                have gk : (k0 == 1) = true := by simpa using h1
                clear h0 h1
                have CA := Lib.hid (nstep_any w1.heap.size v o q k1 wr S w1')
                go_wp2_with fail
                refine CA.out.mono ?_
                rintro e v4 ⟨rfl, tn⟩
                obtain ⟨T9', bl, keepb⟩ := GO.out _ _ tn
                rw [← HL] at T9'
                have T9 := Lib.hid T9'
                have E9 := Lib.hid (E4.out.trans (bl.mono LN.out))
                have N9 := Lib.hid (Nat.le_trans N4.out bl.size)
                have AX9 := Lib.hid (keepb _ _ _ (by decide) (by decide) AX4.out)
                have PX9 := Lib.hid (keepb _ _ _ (by decide) (by decide) PX4.out)
                clear tn T9' bl keepb CA GO S
                go_wp2_with fail
                go_roundw
                case rel => exact ⟨1, by omega, rfl, Lib.hid (by have := T9.out; rw [hq] at this; simpa using this), AX9, PX9, N9, E9⟩
                case measure => simp [intOf]
              · have gn1 : (k0 == 1) = false := by simpa using h1
                by_cases h2 : k0 = 2
                · have HL : actL k0 k1 k2 k3 k4 k5 k6 q = cnL q k1 k5 k6 k2 := by unfold actL; rw [if_neg h0]; rw [if_neg h1]; rw [if_pos h2]
                  have gk : (k0 == 2) = true := by simpa using h2
                  clear h0 h1 h2
                  have CA := Lib.hid (ncount_any w1.heap.size v o q k1 k5 k6 k2 wr S w1')
                  go_wp2_with fail
                  refine CA.out.mono ?_
                  rintro e v4 ⟨rfl, tn⟩
                  obtain ⟨T9', bl, keepb⟩ := GO.out _ _ tn
                  rw [← HL] at T9'
                  have T9 := Lib.hid T9'
                  have E9 := Lib.hid (E4.out.trans (bl.mono LN.out))
                  have N9 := Lib.hid (Nat.le_trans N4.out bl.size)
                  have AX9 := Lib.hid (keepb _ _ _ (by decide) (by decide) AX4.out)
                  have PX9 := Lib.hid (keepb _ _ _ (by decide) (by decide) PX4.out)
                  clear tn T9' bl keepb CA GO S
                  go_wp2_with fail
                  go_roundw
                  case rel => exact ⟨1, by omega, rfl, Lib.hid (by have := T9.out; rw [hq] at this; simpa using this), AX9, PX9, N9, E9⟩
                  case measure => simp [intOf]
                · have gn2 : (k0 == 2) = false := by simpa using h2
                  by_cases h3 : k0 = 3
                  · have HL : actL k0 k1 k2 k3 k4 k5 k6 q = enL q k1 k5 k6 k2 := by unfold actL; rw [if_neg h0]; rw [if_neg h1]; rw [if_neg h2]; rw [if_pos h3]
                    have gk : (k0 == 3) = true := by simpa using h3
                    clear h0 h1 h2 h3
                    have CA := Lib.hid (nend_any w1.heap.size v o q k1 k5 k6 k2 wr S w1' (by omega))
                    go_wp2_with fail
                    refine CA.out.mono ?_
                    rintro e v4 ⟨rfl, tn⟩
                    obtain ⟨T9', bl, keepb⟩ := GO.out _ _ tn
                    rw [← HL] at T9'
                    have T9 := Lib.hid T9'
                    have E9 := Lib.hid (E4.out.trans (bl.mono LN.out))
                    have N9 := Lib.hid (Nat.le_trans N4.out bl.size)
                    have AX9 := Lib.hid (keepb _ _ _ (by decide) (by decide) AX4.out)
                    have PX9 := Lib.hid (keepb _ _ _ (by decide) (by decide) PX4.out)
                    clear tn T9' bl keepb CA GO S
                    go_wp2_with fail
                    go_roundw
                    case rel => exact ⟨1, by omega, rfl, Lib.hid (by have := T9.out; rw [hq] at this; simpa using this), AX9, PX9, N9, E9⟩
                    case measure => simp [intOf]
                  · have gn3 : (k0 == 3) = false := by simpa using h3
                    have T9 := TQ
                    have N9 := N4
                    have E9 := E4
                    have AX9 := AX4
                    have PX9 := PX4
                    have HL : actL k0 k1 k2 k3 k4 k5 k6 q = q := by unfold actL; rw [if_neg h0, if_neg h1, if_neg h2, if_neg h3]
                    go_wp2_with fail
                    go_roundw
                    case rel => exact ⟨1, by omega, rfl, Lib.hid (by rw [hq] at HL; have := T9.out; rw [hq] at this; rw [HL]; simpa using this), AX9, PX9, N9, E9⟩
                    case measure => simp [intOf]
          · have TQ : Hid (Two wr w1.heap.size (w1.heap.size + 1) w1.heap.size (ofW i l) (actL k0 k1 k2 k3 k4 k5 k6 l)) := Lib.hid (by have := TX.out.swap; simpa using this)
            have pe := bk_same wr ⟨(w1.heap.size + 1), 0, none⟩
            clear hc1 hc2 TX
            by_cases hw : k1 = i
            · have gw : (k1 != i) = false := by simpa using hw
              have HW : Hid (ofW i (actL k0 k1 k2 k3 k4 k5 k6 l) = actL k0 k1 k2 k3 k4 k5 k6 (ofW i l)) := Lib.hid (by rw [hw]; exact act_own k0 i k2 k3 k4 k5 k6 l)
              obtain ⟨q, hq⟩ : ∃ q, q = ofW i l := ⟨_, rfl⟩
              rw [← hq] at TQ
              have hq' : q.length ≤ 200 := by rw [hq]; have := List.length_filter_le (fun x : Ev => decide (x.w = i)) l; unfold ofW; omega
              obtain ⟨v, o, S', GO'⟩ := TQ.out.one N4.out
              have S := Lib.hid S'
              have GO := Lib.hid GO'
              clear S' GO'
              clear hw
              by_cases h0 : k0 = 0
              · have HL : actL k0 k1 k2 k3 k4 k5 k6 q = bgL q k1 k3 k4 k2 := by unfold actL;  rw [if_pos h0]
                have gk : (k0 == 0) = true := by simpa using h0
                clear h0
                have CA := Lib.hid (nbegin_any (w1.heap.size + 1) v o q k1 k3 k4 k2 wr S w1' (by omega))
                go_wp2_with fail
                refine CA.out.mono ?_
                rintro e v4 ⟨rfl, tn⟩
                obtain ⟨T9', bl, keepb⟩ := GO.out _ _ tn
                rw [← HL] at T9'
                have T9 := Lib.hid T9'
                have E9 := Lib.hid (E4.out.trans (bl.mono LN.out))
                have N9 := Lib.hid (Nat.le_trans N4.out bl.size)
                have AX9 := Lib.hid (keepb _ _ _ (by decide) (by decide) AX4.out)
                have PX9 := Lib.hid (keepb _ _ _ (by decide) (by decide) PX4.out)
                clear tn T9' bl keepb CA GO S
                go_wp2_with fail
                go_roundw
                case rel => exact ⟨2, by omega, rfl, Lib.hid (by have := T9.out.swap; rw [hq, ← HW.out] at this; simpa using this), AX9, PX9, N9, E9⟩
                case measure => simp [intOf]
              · have gn0 : (k0 == 0) = false := by simpa using h0
                by_cases h1 : k0 = 1
                · have HL : actL k0 k1 k2 k3 k4 k5 k6 q = stL q k1 := by unfold actL; rw [if_neg h0]; rw [if_pos h1]
                  have gk : (k0 == 1) = true := by simpa using h1
                  clear h0 h1
                  have CA := Lib.hid (nstep_any (w1.heap.size + 1) v o q k1 wr S w1')
                  go_wp2_with fail
                  refine CA.out.mono ?_
                  rintro e v4 ⟨rfl, tn⟩
                  obtain ⟨T9', bl, keepb⟩ := GO.out _ _ tn
                  rw [← HL] at T9'
                  have T9 := Lib.hid T9'
                  have E9 := Lib.hid (E4.out.trans (bl.mono LN.out))
                  have N9 := Lib.hid (Nat.le_trans N4.out bl.size)
                  have AX9 := Lib.hid (keepb _ _ _ (by decide) (by decide) AX4.out)
                  have PX9 := Lib.hid (keepb _ _ _ (by decide) (by decide) PX4.out)
                  clear tn T9' bl keepb CA GO S
                  go_wp2_with fail
                  go_roundw
                  case rel => exact ⟨2, by omega, rfl, Lib.hid (by have := T9.out.swap; rw [hq, ← HW.out] at this; simpa using this), AX9, PX9, N9, E9⟩
                  case measure => simp [intOf]
                · have gn1 : (k0 == 1) = false := by simpa using h1
                  by_cases h2 : k0 = 2
                  · have HL : actL k0 k1 k2 k3 k4 k5 k6 q = cnL q k1 k5 k6 k2 := by unfold actL; rw [if_neg h0]; rw [if_neg h1]; rw [if_pos h2]
                    have gk : (k0 == 2) = true := by simpa using h2
                    clear h0 h1 h2
                    have CA := Lib.hid (ncount_any (w1.heap.size + 1) v o q k1 k5 k6 k2 wr S w1')
                    go_wp2_with fail
                    refine CA.out.mono ?_
                    rintro e v4 ⟨rfl, tn⟩
                    obtain ⟨T9', bl, keepb⟩ := GO.out _ _ tn
                    rw [← HL] at T9'
                    have T9 := Lib.hid T9'
                    have E9 := Lib.hid (E4.out.trans (bl.mono LN.out))
                    have N9 := Lib.hid (Nat.le_trans N4.out bl.size)
                    have AX9 := Lib.hid (keepb _ _ _ (by decide) (by decide) AX4.out)
                    have PX9 := Lib.hid (keepb _ _ _ (by decide) (by decide) PX4.out)
                    clear tn T9' bl keepb CA GO S
                    go_wp2_with fail
                    go_roundw
                    case rel => exact ⟨2, by omega, rfl, Lib.hid (by have := T9.out.swap; rw [hq, ← HW.out] at this; simpa using this), AX9, PX9, N9, E9⟩
                    case measure => simp [intOf]
                  · have gn2 : (k0 == 2) = false := by simpa using h2
                    by_cases h3 : k0 = 3
                    · have HL : actL k0 k1 k2 k3 k4 k5 k6 q = enL q k1 k5 k6 k2 := by unfold actL; rw [if_neg h0]; rw [if_neg h1]; rw [if_neg h2]; rw [if_pos h3]
                      have gk : (k0 == 3) = true := by simpa using h3
                      clear h0 h1 h2 h3
                      have CA := Lib.hid (nend_any (w1.heap.size + 1) v o q k1 k5 k6 k2 wr S w1' (by omega))
                      go_wp2_with fail
                      refine CA.out.mono ?_
                      rintro e v4 ⟨rfl, tn⟩
                      obtain ⟨T9', bl, keepb⟩ := GO.out _ _ tn
                      rw [← HL] at T9'
                      have T9 := Lib.hid T9'
                      have E9 := Lib.hid (E4.out.trans (bl.mono LN.out))
                      have N9 := Lib.hid (Nat.le_trans N4.out bl.size)
                      have AX9 := Lib.hid (keepb _ _ _ (by decide) (by decide) AX4.out)
                      have PX9 := Lib.hid (keepb _ _ _ (by decide) (by decide) PX4.out)
                      clear tn T9' bl keepb CA GO S
                      go_wp2_with fail
                      go_roundw
                      case rel => exact ⟨2, by omega, rfl, Lib.hid (by have := T9.out.swap; rw [hq, ← HW.out] at this; simpa using this), AX9, PX9, N9, E9⟩
                      case measure => simp [intOf]
                    · have gn3 : (k0 == 3) = false := by simpa using h3
                      have T9 := TQ
                      have N9 := N4
                      have E9 := E4
                      have AX9 := AX4
                      have PX9 := PX4
                      have HL : actL k0 k1 k2 k3 k4 k5 k6 q = q := by unfold actL; rw [if_neg h0, if_neg h1, if_neg h2, if_neg h3]
                      go_wp2_with fail
                      go_roundw
                      case rel => exact ⟨2, by omega, rfl, Lib.hid (by have := T9.out.swap; rw [← HL, hq, ← HW.out] at this; simpa using this), AX9, PX9, N9, E9⟩
                      case measure => simp [intOf]
            · have gw : (k1 != i) = true := by simpa using hw
              have HW := act_other k0 k1 k2 k3 k4 k5 k6 hw l
              go_wp2_with fail
              go_roundw
              case rel => exact ⟨2, by omega, rfl, Lib.hid (by have := TQ.out.swap; rw [← HW] at this; simpa using this), AX4, PX4, N4, E4⟩
              case measure => simp [intOf]
          · have TQ : Hid (Two wr w1.heap.size w1.heap.size (w1.heap.size + 1) (actL k0 k1 k2 k3 k4 k5 k6 l) (ofW i (actL k0 k1 k2 k3 k4 k5 k6 l))) := Lib.hid (by simpa using TX.out)
            clear hc1 hc2 TX
            have hl6 := act_len k0 k1 k2 k3 k4 k5 k6 l
            go_wp2_with fail
            go_roundw
            case rel => exact ⟨j + 1, _, by omega, by push_cast; rfl, by omega, TQ, N4, E4⟩
            case measure => simp [intOf]; omega
    · obtain rfl : j = n1 := by omega
      obtain ⟨v1, o1, v2, o2, z1, z2, -, -, -⟩ := TW.out
      have S1 := Lib.hid z1
      have S2 := Lib.hid z2
      clear z1 z2 TW
      have EV := Lib.hid (nevents_any w1.heap.size v1 o1 l wr S1 (by omega))
      go_wp2_with fail
      refine EV.out.mono ?_
      rintro e w6 ⟨u, rfl, t1, t2, -⟩
      obtain ⟨ua, uc, rfl⟩ := ORow.form t1
      have R6 := Lib.hid t1
      have S6 := Lib.hid (S2.out.next t2)
      have E6 := Lib.hid (EE.out.trans (t2.mono EE.out.size))
      clear t1 t2 EV S1 S2 EE NN
      go_wp2_with fail
      go_loopw [11, 84] (fun u11 u84 wr => ∃ t : Nat, t ≤ l.length ∧ u84 = .int .i64 (t : Nat) ∧ Hid (EvRow wr u11 (ofW i (l.take t))) ∧ Hid (∀ b, u11.ownBlock = some b → w6.heap.size ≤ b) ∧ Hid (Below w6.heap.size w6 wr)) (fun _ u84 _ => l.length - (intOf u84).toNat)
      case atStart => exact ⟨0, by omega, rfl, ORow.nil _, Lib.hid (fun b e => by cases e), Lib.hid (Below.refl _ _)⟩
      case round =>
        obtain ⟨t, ht, rfl, RR, OO, BB⟩ := hrel
        by_cases hlt : t < l.length
        · have l5 : (t : Int) < (l.length : Int) := by omega
          obtain ⟨y, hy⟩ : ∃ y, l[t]? = some y := ⟨_, List.getElem?_eq_getElem hlt⟩
          have HT := Lib.hid (ofW_take (i := i) hy)
          obtain ⟨lb, cp, hv2, y0, y1, y2, y3, y4, y5, y6, y7, y8, -⟩ := EvRow.cells (ORow.next R6.out BB.out) hy
          simp only [Value.slice.injEq] at hv2
          obtain ⟨rfl, -, rfl⟩ := hv2
          have hb := box1 wr (.cells #[.int .i64 y.w, .int .i64 y.k, .int .i64 y.n, .int .i64 y.c, .int .i64 y.a, .int .i64 y.s, .int .i64 y.b, .int .i64 y.p, .int .i64 y.e] 38)
          have RB := Lib.hid (ORow.next RR.out hb)
          have B2 := Lib.hid (BB.out.trans (hb.mono BB.out.size))
          clear hb hy
          by_cases hw : y.w = i
          · have gw : (y.w == i) = true := by simpa using hw
            have HT2 : Hid (ofW i (l.take (t + 1)) = ofW i (l.take t) ++ [y]) := Lib.hid (by have := HT.out; rwa [if_pos hw] at this)
            clear HT hw
            have hb := box1 (wr.alloc (.cells #[.int .i64 y.w, .int .i64 y.k, .int .i64 y.n, .int .i64 y.c, .int .i64 y.a, .int .i64 y.s, .int .i64 y.b, .int .i64 y.p, .int .i64 y.e] 38)) (.cells #[.int .i64 y.w, .int .i64 y.k, .int .i64 y.n, .int .i64 y.c, .int .i64 y.a, .int .i64 y.s, .int .i64 y.b, .int .i64 y.p, .int .i64 y.e] 38)
            have TB : ((wr.alloc (.cells #[.int .i64 y.w, .int .i64 y.k, .int .i64 y.n, .int .i64 y.c, .int .i64 y.a, .int .i64 y.s, .int .i64 y.b, .int .i64 y.p, .int .i64 y.e] 38)).alloc (.cells #[.int .i64 y.w, .int .i64 y.k, .int .i64 y.n, .int .i64 y.c, .int .i64 y.a, .int .i64 y.s, .int .i64 y.b, .int .i64 y.p, .int .i64 y.e] 38)).heap[wr.heap.size + 1]? = some (.cells (evE y).toArray 38 (0, 0)) := by have := heap_new (wr.alloc (.cells #[.int .i64 y.w, .int .i64 y.k, .int .i64 y.n, .int .i64 y.c, .int .i64 y.a, .int .i64 y.s, .int .i64 y.b, .int .i64 y.p, .int .i64 y.e] 38)) (.cells #[.int .i64 y.w, .int .i64 y.k, .int .i64 y.n, .int .i64 y.c, .int .i64 y.a, .int .i64 y.s, .int .i64 y.b, .int .i64 y.p, .int .i64 y.e] 38); rwa [show (wr.alloc (.cells #[.int .i64 y.w, .int .i64 y.k, .int .i64 y.n, .int .i64 y.c, .int .i64 y.a, .int .i64 y.s, .int .i64 y.b, .int .i64 y.p, .int .i64 y.e] 38)).heap.size = wr.heap.size + 1 from by simp] at this
            have fw : (ofW i (l.take t)).length ≤ 1048576 := by have := ofW_len i (l.take t); rw [List.length_take] at this; omega
            obtain ⟨v', wa, hrun, r1, r2, r3, -⟩ := EvRow.app (vb := wr.heap.size + 1) (x := y) (ORow.next RB.out hb) TB fw 24
            have B3 := B2.out.trans (hb.mono B2.out.size)
            have on := Only.of_grown (l := u11.ownBlock.toList) r2 (fun b hb => by simp [hb])
            have B4 := Lib.hid (B3.trans (on.below (fun b hb => OO.out b (by simpa using hb)) B3.size))
            have O4 : Hid (∀ b, v'.ownBlock = some b → w6.heap.size ≤ b) := Lib.hid (fun b e => by
              rcases r3 with q | q
              · rw [q] at e; exact OO.out b e
              · rw [q] at e; cases e; exact B3.size)
            rw [← HT2.out] at r1
            have R4 := Lib.hid r1
            have HR := Lib.hid hrun
            clear r1 r2 r3 hrun on B3 TB hb B2 RB HT2 fw
            go_wp2_with (at_builtin; refine wpList_append_by rfl _ _ 24 24 rfl u11 (.slice (some ⟨wr.heap.size + 1, 0, none⟩) 1 1) (by rfl) (by rfl) HR.out ?_)
            go_roundw
            case rel => exact ⟨t + 1, by omega, by push_cast; rfl, R4, O4, B4⟩
            case measure => simp [intOf]; omega
          · have gw : (y.w == i) = false := by simpa using hw
            have HT2 : Hid (ofW i (l.take (t + 1)) = ofW i (l.take t)) := Lib.hid (by have := HT.out; rwa [if_neg hw] at this)
            clear HT hw
            go_wp2_with fail
            go_roundw
            case rel => exact ⟨t + 1, by omega, by push_cast; rfl, Lib.hid (by rw [HT2.out]; exact RB.out), OO, B2⟩
            case measure => simp [intOf]; omega
        · obtain rfl : t = l.length := by omega
          have R7 : Hid (EvRow wr u11 (ofW i l)) := Lib.hid (by have := RR.out; rwa [List.take_length] at this)
          have S7 := Lib.hid (S6.out.next BB.out)
          have E7 := Lib.hid (E6.out.trans (BB.out.mono E6.out.size))
          clear RR BB S6 E6
          have hlo := ofW_len i l
          have EV := Lib.hid (nevents_any (w1.heap.size + 1) v2 o2 (ofW i l) wr S7 (by omega))
          go_wp2_with fail
          refine EV.out.mono ?_
          rintro e w8 ⟨u8, rfl, t1, t2, -⟩
          have R8 := Lib.hid t1
          have R9 := Lib.hid (ORow.next R7.out t2)
          have E8 := Lib.hid (E7.out.trans (t2.mono E7.out.size))
          clear t1 t2 EV
          have SA := Lib.hid (same18_any _ _ (ofW i l) w8 R9 R8 (by omega))
          go_wp2_with fail
          refine SA.out.mono ?_
          rintro e w9 ⟨rfl, hb⟩
          have E9 := Lib.hid (E8.out.trans (hb.mono E8.out.size))
          clear hb SA
          go_wp2_with fail
          go_ret
          exact ⟨rfl, E9.out⟩
end Go.Proofs.Ytagacljfpakgnab
