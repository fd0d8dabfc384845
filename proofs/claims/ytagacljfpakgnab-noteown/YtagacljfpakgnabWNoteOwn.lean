/-
  NoteOwn: the walk.
-/
import Derived.Test.YtagacljfpakgnabNoteSp
namespace Go.Proofs.Ytagacljfpakgnab
open Go.RowKit Go.Sort Go.Maps
attribute [local go_sem] Oper.semAt_some

set_option maxRecDepth 20000 in
set_option maxHeartbeats 8000000 in
theorem nown_walk (a1 : Option Addr) (n1 c1 : Nat) (Z0 Z1 Z2 Z3 Z4 Z5 Z6 : Nat → Int) (w : World) (hs : Hid (RowNt w a1 n1 Z0 Z1 Z2 Z3 Z4 Z5 Z6)) :
    Calls Try.prog 3 #[.slice a1 n1 c1] w fun e w' => e = .returned (.bool true) ∧ Below w.heap.size w w' := by
  go_enter Try.func3, Try.ntmps3
  go_wp2_with fail
  refine (speaks18_any w).mono ?_
  rintro e w1 ⟨rfl, hb⟩
  have E1 := Lib.hid hb
  clear hb
  by_cases hfew : 200 < (n1 : Int)
  · have h5 : decide (200 < (n1 : Int)) = true := by simpa using hfew
    go_wp2_with fail
    go_ret
    exact ⟨rfl, E1.out⟩
  have h5 : decide (200 < (n1 : Int)) = false := by simpa using hfew
  have hb := box1 w1 (.cells #[.slice none 0 0, .map none] 27)
  have S0 := Lib.hid (bn_new w1)
  have E2 := Lib.hid (E1.out.trans (hb.mono E1.out.size))
  have LN : Hid (w.heap.size ≤ w1.heap.size) := Lib.hid E1.out.size
  have F0 : Hid (∀ b ∈ w1.heap.size :: foot (.slice none 0 0) none, w1.heap.size ≤ b) := Lib.hid (fun b hb => by simp [foot, Value.ownBlock] at hb; omega)
  have Q0 : Hid (w1.heap.size ≤ (w1.alloc (.cells #[.slice none 0 0, .map none] 27)).heap.size) := Lib.hid hb.size
  clear hb E1
  go_upto_region 6 with fail
  generalize w1.alloc (.cells #[.slice none 0 0, .map none] 27) = w2 at *
  go_wp2_with fail
  go_loopw [17] (fun u17 wr => ∃ (j : Nat) (v : Value) (o : Option Nat) (l : List Ev), j ≤ n1 ∧ u17 = .int .i64 (j : Nat) ∧ l.length ≤ j ∧ Hid (Bn wr w1.heap.size v o l) ∧ Hid (∀ b ∈ w1.heap.size :: foot v o, w1.heap.size ≤ b) ∧ Hid (w1.heap.size ≤ wr.heap.size) ∧ Hid (Below w.heap.size w wr)) (fun u17 _ => n1 - (intOf u17).toNat)
  case atStart => exact ⟨0, _, _, [], by omega, rfl, by simp, S0, F0, Q0, E2⟩
  case round =>
    obtain ⟨j, v, o, l, hj, rfl, hl, SS, FF, NN, EE⟩ := hrel
    by_cases hlt : j < n1
    · have l3 : (j : Int) < (n1 : Int) := by omega
      have Zr := Lib.hid (hs.out.next EE.out)
      obtain ⟨ab, off, rfl, hab, q0, q1, q2, q3, q4, q5, q6⟩ := Zr.out.at hlt
      obtain ⟨_, w1', _, _, _, _, _⟩ := Zr.out.1.2 j hlt
      clear Zr
      generalize Z0 j = k0 at *
      generalize Z1 j = k1 at *
      generalize Z2 j = k2 at *
      generalize Z3 j = k3 at *
      generalize Z4 j = k4 at *
      generalize Z5 j = k5 at *
      generalize Z6 j = k6 at *
      have hb := box1 wr (.cells #[.int .i64 k0, .int .i64 k1, .int .i64 k2, .int .i64 k3, .int .i64 k4, .int .i64 k5, .int .i64 k6] 34)
      have S2 := Lib.hid (SS.out.next hb)
      have E2' := Lib.hid (EE.out.trans (hb.mono EE.out.size))
      have N2 : Hid (w1.heap.size ≤ (wr.alloc (.cells #[.int .i64 k0, .int .i64 k1, .int .i64 k2, .int .i64 k3, .int .i64 k4, .int .i64 k5, .int .i64 k6] 34)).heap.size) := Lib.hid (Nat.le_trans NN.out hb.size)
      clear hb
      by_cases hg : k2 < 1
      · have g1 : decide (1 ≤ k2) = false := by simp; omega
        go_wp2_with fail
        go_roundw
        case rel => exact ⟨j + 1, v, o, l, by omega, by push_cast; rfl, by omega, S2, FF, N2, E2'⟩
        case measure => simp [intOf]; omega
      · have g1 : decide (1 ≤ k2) = true := by simp; omega
        have CA := Lib.hid (nbegin_any w1.heap.size v o l k1 k3 k4 k2 _ S2 w1' (by omega))
        go_wp2_with fail
        refine CA.out.mono ?_
        rintro e w5 ⟨rfl, tn⟩
        obtain ⟨v5, o5, t1, t2, t3⟩ := tn.far FF.out N2.out
        have S5 := Lib.hid t1
        have F5 := Lib.hid t2
        have E5 := Lib.hid (E2'.out.trans (t3.mono LN.out))
        have N5 : Hid (w1.heap.size ≤ w5.heap.size) := Lib.hid (Nat.le_trans N2.out t3.size)
        have hl5 : (bgL l k1 k3 k4 k2).length ≤ j + 1 := by unfold bgL; split <;> first | (simp; omega) | omega
        clear tn t1 t2 t3 CA
        go_wp2_with fail
        go_roundw
        case rel => exact ⟨j + 1, v5, o5, _, by omega, by push_cast; rfl, hl5, S5, F5, N5, E5⟩
        case measure => simp [intOf]; omega
    · obtain rfl : j = n1 := by omega
      have EV6 := Lib.hid (nevents_any w1.heap.size v o l wr SS (by omega))
      go_wp2_with fail
      refine EV6.out.mono ?_
      rintro e w6 ⟨u6, rfl, t1, t2, t3⟩
      obtain ⟨ua6, uc6, rfl⟩ := ORow.form t1
      have R6 := Lib.hid t1
      have S6 := Lib.hid (SS.out.next t2)
      have E6 := Lib.hid (EE.out.trans (t2.mono EE.out.size))
      have O6 : Hid (∀ b, (Value.slice ua6 l.length uc6).ownBlock = some b → wr.heap.size ≤ b) := Lib.hid t3
      have L6 := Lib.hid SS.out.lt
      have WN : Hid (w.heap.size ≤ wr.heap.size) := Lib.hid EE.out.size
      clear t1 t2 t3 EV6 SS EE
      go_wp2_with fail
      go_loopw [35] (fun u35 wr => ∃ i : Nat, i ≤ l.length ∧ u35 = .int .i64 (i : Nat) ∧ Hid (EvRow wr (.slice ua6 l.length uc6) (incTo l i)) ∧ Hid (Only (Value.slice ua6 l.length uc6).ownBlock.toList w6 wr)) (fun u35 _ => l.length - (intOf u35).toNat)
      case atStart => exact ⟨0, by omega, rfl, R6, Lib.hid (Only.refl _ _)⟩
      case round =>
        obtain ⟨i, hi, rfl, RM, OO⟩ := hrel
        by_cases hli : i < l.length
        · have l5 : (i : Int) < (l.length : Int) := by omega
          obtain ⟨y, hy⟩ : ∃ y, l[i]? = some y := ⟨_, List.getElem?_eq_getElem hli⟩
          have hy2 := incTo_at hy
          obtain ⟨lb, cp, hv2, _, _, _, _, _, y5, _, _, _, hfr⟩ := EvRow.cells RM.out hy2
          simp only [Value.slice.injEq] at hv2
          obtain ⟨rfl, _, rfl⟩ := hv2
          have ff := hfr (i * 9 + 5)
          have RN : EvRow (wr.setCell ⟨lb, i * 9 + 5, none⟩ (.int .i64 (wrap64 (y.s + 1)))) (.slice (some ⟨lb, 0, none⟩) l.length uc6) ((incTo l i).set i (incE y)) := ORow.set evEnc RM.out hy2 (by decide) rfl
          rw [incTo_next hy] at RN
          have RN := Lib.hid RN
          have ON : Hid (Only (Value.slice (some ⟨lb, 0, none⟩) l.length uc6).ownBlock.toList w6 (wr.setCell ⟨lb, i * 9 + 5, none⟩ (.int .i64 (wrap64 (y.s + 1))))) := OO.out.trans (Only.of_set (by simp [Value.ownBlock]) _)
          clear hfr hy hy2
          go_wp2_with fail
          go_roundw
          case rel => exact ⟨i + 1, by omega, by push_cast; rfl, RN, ON⟩
          case measure => simp [intOf]; omega
        · obtain rfl : i = l.length := by omega
          have R6a : Hid (EvRow wr (.slice ua6 l.length uc6) (l.map incE)) := Lib.hid (by have := RM.out; rwa [incTo_all] at this)
          have S7 := Lib.hid (S6.out.stay OO.out (fun b hb hm => by
            simp only [Option.mem_toList] at hm
            have := L6.out b hb
            have := O6.out b hm
            omega))
          have E7 := Lib.hid (E6.out.trans (OO.out.below (fun b hb => by simp only [Option.mem_toList] at hb; have := O6.out b hb; have := WN.out; omega) E6.out.size))
          clear RM OO S6 E6
          have EV8 := Lib.hid (nevents_any w1.heap.size v o l wr S7 (by omega))
          go_wp2_with fail
          refine EV8.out.mono ?_
          rintro e w8 ⟨u8, rfl, t1, t2, t3⟩
          obtain ⟨ua8, uc8, rfl⟩ := ORow.form t1
          have R8 := Lib.hid t1
          have R6b := Lib.hid (ORow.next R6a.out t2)
          have E8 := Lib.hid (E7.out.trans (t2.mono E7.out.size))
          obtain ⟨h8, X8, O8⟩ : ∃ h8 : Nat, Hid (w.heap.size ≤ h8 ∧ ∀ b, (Value.slice ua6 l.length uc6).ownBlock = some b → b < h8) ∧ Hid (∀ b, (Value.slice ua8 l.length uc8).ownBlock = some b → h8 ≤ b) := ⟨wr.heap.size, Lib.hid ⟨E7.out.size, fun b e => R6a.out.lt' e⟩, Lib.hid t3⟩
          clear t1 t2 t3 EV8 S7 R6a E7
          go_wp2_with fail
          go_loopw [50] (fun u50 wr => ∃ i : Nat, i ≤ l.length ∧ u50 = .int .i64 (i : Nat) ∧ Hid (EvRow wr (.slice ua8 l.length uc8) (incTo l i)) ∧ Hid (Only (Value.slice ua8 l.length uc8).ownBlock.toList w8 wr)) (fun u50 _ => l.length - (intOf u50).toNat)
          case atStart => exact ⟨0, by omega, rfl, R8, Lib.hid (Only.refl _ _)⟩
          case round =>
            obtain ⟨i, hi, rfl, RM, OO⟩ := hrel
            by_cases hli : i < l.length
            · have l5 : (i : Int) < (l.length : Int) := by omega
              obtain ⟨y, hy⟩ : ∃ y, l[i]? = some y := ⟨_, List.getElem?_eq_getElem hli⟩
              have hy2 := incTo_at hy
              obtain ⟨lb, cp, hv2, _, _, _, _, _, y5, _, _, _, hfr⟩ := EvRow.cells RM.out hy2
              simp only [Value.slice.injEq] at hv2
              obtain ⟨rfl, _, rfl⟩ := hv2
              have ff := hfr (i * 9 + 5)
              have RN : EvRow (wr.setCell ⟨lb, i * 9 + 5, none⟩ (.int .i64 (wrap64 (y.s + 1)))) (.slice (some ⟨lb, 0, none⟩) l.length uc8) ((incTo l i).set i (incE y)) := ORow.set evEnc RM.out hy2 (by decide) rfl
              rw [incTo_next hy] at RN
              have RN := Lib.hid RN
              have ON : Hid (Only (Value.slice (some ⟨lb, 0, none⟩) l.length uc8).ownBlock.toList w8 (wr.setCell ⟨lb, i * 9 + 5, none⟩ (.int .i64 (wrap64 (y.s + 1))))) := OO.out.trans (Only.of_set (by simp [Value.ownBlock]) _)
              clear hfr hy hy2
              go_wp2_with fail
              go_roundw
              case rel => exact ⟨i + 1, by omega, by push_cast; rfl, RN, ON⟩
              case measure => simp [intOf]; omega
            · obtain rfl : i = l.length := by omega
              have R8f : Hid (EvRow wr (.slice ua8 l.length uc8) (l.map incE)) := Lib.hid (by have := RM.out; rwa [incTo_all] at this)
              have R6f : Hid (EvRow wr (.slice ua6 l.length uc6) (l.map incE)) := Lib.hid (ORow.stay R6b.out OO.out (fun b hb hm => by
                simp only [Option.mem_toList] at hm
                have := X8.out.2 b hb
                have := O8.out b hm
                omega))
              have E9 := Lib.hid (E8.out.trans (OO.out.below (fun b hb => by simp only [Option.mem_toList] at hb; have := O8.out b hb; have := X8.out.1; omega) E8.out.size))
              have SA := same18_any _ _ _ wr R6f R8f (by rw [List.length_map]; omega)
              have SA := Lib.hid SA
              go_wp2_with fail
              refine SA.out.mono ?_
              rintro e wz ⟨rfl, hb⟩
              have EZ := Lib.hid (E9.out.trans (hb.mono E9.out.size))
              clear hb SA
              go_wp2_with fail
              go_ret
              exact ⟨rfl, EZ.out⟩
end Go.Proofs.Ytagacljfpakgnab
