/-
  Contract of the document's own May of layer 4.
-/
import Derived.Test.YtkogeeaoppkhkaaDoorConf3
namespace Go.Proofs.YtkogeeaoppkhkaaDoor
open Go.RowKit

set_option maxRecDepth 20000 in
set_option maxHeartbeats 4000000 in
theorem rmay_any (W S B T : Int) (ad : Option Addr) (len cap : Nat) (f : Nat → Int) (w : World) (hr0 : Hid (RowI w ad len f)) (hl : len < 9223372036854775808) :
    Calls Tryd.prog 15 #[.agg #[.int .i64 W, .int .i64 S, .int .i64 B, .int .i64 T, .slice ad len cap]] w fun e w' => e = .returned (.bool (mayB W S B T len f)) ∧ Below w.heap.size w w' := by
  have hb0 := below_alloc w (.cells #[.int .i64 W, .int .i64 S, .int .i64 B, .int .i64 T, .slice ad len cap] 24)
  have HB := Lib.hid hb0
  have hr : Hid (RowI (w.alloc (.cells #[.int .i64 W, .int .i64 S, .int .i64 B, .int .i64 T, .slice ad len cap] 24)) ad len f) := hr0.out.next hb0
  have HM : Hid (mayB W S B T len f = (numB W S B T && ((decide (1 ≤ (len : Int)) && decide ((len : Int) ≤ 16)) && clsTo f len))) := rfl
  have C0 := cfg_new w W S B T (.slice ad len cap)
  clear hb0
  generalize mayB W S B T len f = M at *
  go_enter Tryd.func15, Tryd.ntmps15
  go_upto_region 1 with fail
  generalize w.alloc (.cells #[.int .i64 W, .int .i64 S, .int .i64 B, .int .i64 T, .slice ad len cap] 24) = w0 at *
  generalize hN : w.heap.size = N at *
  obtain ⟨c0, c1, c2, c3, c4⟩ := cfg_cells C0
  clear C0
  go_cut [3] (fun v wx => v = .bool (numB W S B T) ∧ wx = w0)
  case first =>
    by_cases h0 : 1 ≤ W
    · have d0 : decide (1 ≤ W) = true := by simpa using h0
      by_cases h1 : W ≤ 64
      · have d1 : decide (W ≤ 64) = true := by simpa using h1
        by_cases h2 : 1 ≤ S
        · have d2 : decide (1 ≤ S) = true := by simpa using h2
          by_cases h3 : S ≤ 64
          · have d3 : decide (S ≤ 64) = true := by simpa using h3
            by_cases h4 : 1 ≤ B
            · have d4 : decide (1 ≤ B) = true := by simpa using h4
              by_cases h5 : B ≤ 64
              · have d5 : decide (B ≤ 64) = true := by simpa using h5
                by_cases h6 : 0 ≤ T
                · have d6 : decide (0 ≤ T) = true := by simpa using h6
                  by_cases h7 : T ≤ 8
                  · have d7 : decide (T ≤ 8) = true := by simpa using h7
                    have HN : Hid (numB W S B T = true) := by show numB W S B T = _; unfold numB in4; rw [d0, d1, d2, d3, d4, d5, d6, d7]; rfl
                    go_wp2_with fail
                    go_meet
                    case rel => exact ⟨by rw [HN.out], rfl⟩
                  · have d7 : decide (T ≤ 8) = false := by simpa using h7
                    have HN : Hid (numB W S B T = false) := by show numB W S B T = _; unfold numB in4; rw [d0, d1, d2, d3, d4, d5, d6, d7]; simp
                    clear h7
                    go_wp2_with fail
                    go_meet
                    case rel => exact ⟨by rw [HN.out], rfl⟩
                · have d6 : decide (0 ≤ T) = false := by simpa using h6
                  have HN : Hid (numB W S B T = false) := by show numB W S B T = _; unfold numB in4; rw [d0, d1, d2, d3, d4, d5, d6]; simp
                  clear h6
                  go_wp2_with fail
                  go_meet
                  case rel => exact ⟨by rw [HN.out], rfl⟩
              · have d5 : decide (B ≤ 64) = false := by simpa using h5
                have HN : Hid (numB W S B T = false) := by show numB W S B T = _; unfold numB in4; rw [d0, d1, d2, d3, d4, d5]; simp
                clear h5
                go_wp2_with fail
                go_meet
                case rel => exact ⟨by rw [HN.out], rfl⟩
            · have d4 : decide (1 ≤ B) = false := by simpa using h4
              have HN : Hid (numB W S B T = false) := by show numB W S B T = _; unfold numB in4; rw [d0, d1, d2, d3, d4]; simp
              clear h4
              go_wp2_with fail
              go_meet
              case rel => exact ⟨by rw [HN.out], rfl⟩
          · have d3 : decide (S ≤ 64) = false := by simpa using h3
            have HN : Hid (numB W S B T = false) := by show numB W S B T = _; unfold numB in4; rw [d0, d1, d2, d3]; simp
            clear h3
            go_wp2_with fail
            go_meet
            case rel => exact ⟨by rw [HN.out], rfl⟩
        · have d2 : decide (1 ≤ S) = false := by simpa using h2
          have HN : Hid (numB W S B T = false) := by show numB W S B T = _; unfold numB in4; rw [d0, d1, d2]; simp
          clear h2
          go_wp2_with fail
          go_meet
          case rel => exact ⟨by rw [HN.out], rfl⟩
      · have d1 : decide (W ≤ 64) = false := by simpa using h1
        have HN : Hid (numB W S B T = false) := by show numB W S B T = _; unfold numB in4; rw [d0, d1]; simp
        clear h1
        go_wp2_with fail
        go_meet
        case rel => exact ⟨by rw [HN.out], rfl⟩
    · have d0 : decide (1 ≤ W) = false := by simpa using h0
      have HN : Hid (numB W S B T = false) := by show numB W S B T = _; unfold numB in4; rw [d0]; simp
      clear h0
      go_wp2_with fail
      go_meet
      case rel => exact ⟨by rw [HN.out], rfl⟩
  case rest =>
    obtain ⟨rfl, hwx⟩ := hcut
    obtain rfl : w0 = wc := hwx.symm
    generalize numB W S B T = nb at *
    go_upto_region 2 with fail
    go_cut [3] (fun v wx => v = .bool (nb && (decide (1 ≤ (len : Int)) && decide ((len : Int) ≤ 16))) ∧ wx = w0)
    case first =>
      cases nb
      · go_wp2_with fail
        go_meet
        case rel => exact ⟨rfl, rfl⟩
      · by_cases h0 : 1 ≤ (len : Int)
        · have d0 : decide (1 ≤ (len : Int)) = true := by simpa using h0
          by_cases h1 : (len : Int) ≤ 16
          · have d1 : decide ((len : Int) ≤ 16) = true := by simpa using h1
            have HN : Hid ((true && (decide (1 ≤ (len : Int)) && decide ((len : Int) ≤ 16))) = true) := by show _ = _; rw [d0, d1]; rfl
            go_wp2_with fail
            go_meet
            case rel => exact ⟨by rw [HN.out], rfl⟩
          · have d1 : decide ((len : Int) ≤ 16) = false := by simpa using h1
            have HN : Hid ((true && (decide (1 ≤ (len : Int)) && decide ((len : Int) ≤ 16))) = false) := by show _ = _; rw [d0, d1]; simp
            clear h1
            go_wp2_with fail
            go_meet
            case rel => exact ⟨by rw [HN.out], rfl⟩
        · have d0 : decide (1 ≤ (len : Int)) = false := by simpa using h0
          have HN : Hid ((true && (decide (1 ≤ (len : Int)) && decide ((len : Int) ≤ 16))) = false) := by show _ = _; rw [d0]; simp
          clear h0
          go_wp2_with fail
          go_meet
          case rel => exact ⟨by rw [HN.out], rfl⟩
    case rest =>
      obtain ⟨rfl, hwx⟩ := hcut
      obtain rfl : w0 = wc := hwx.symm
      have HM2 : Hid (M = ((nb && (decide (1 ≤ (len : Int)) && decide ((len : Int) ≤ 16))) && clsTo f len)) := by show M = _; rw [HM.out]; simp only [Bool.and_assoc]
      clear HM
      generalize (nb && (decide (1 ≤ (len : Int)) && decide ((len : Int) ≤ 16))) = st at *
      go_wp2_with fail
      go_loop [3, 4] (fun v u => ∃ i : Nat, i ≤ len ∧ v = .bool (st && clsTo f i) ∧ u = .int .i64 i) (fun _ u => len - (intOf u).toNat)
      case atStart => exact ⟨0, Nat.zero_le _, by simp [clsTo], rfl⟩
      case round =>
        obtain ⟨i, hi, rfl, rfl⟩ := hrel
        by_cases hlt : i < len
        · obtain ⟨b, off, rfl, hcell⟩ := hr.out.at hlt
          have l2 : (i : Int) < (len : Int) := by omega
          have HI : Hid (clsAt f i = (decide (16 ≤ f i) && decide (f i ≤ 512) && decide (f i % 16 = 0) && (decide (i = 0) || decide (f (i - 1) < f i)))) := rfl
          have HS : Hid ((st && clsTo f (i + 1)) = ((st && clsTo f i) && clsAt f i)) := by show (st && (clsTo f i && clsAt f i)) = _; rw [Bool.and_assoc]
          generalize clsAt f i = ok at *
          generalize f i = z at *
          rcases hc : (st && clsTo f i) with _ | _
          · have HC := Lib.hid hc
            clear hc HI
            go_wp2_with fail
            go_round
            case rel => exact ⟨i + 1, by omega, by rw [HS.out, HC.out, Bool.false_and], by go_num⟩
            case measure => simp [intOf]; omega
          · have HC := Lib.hid hc
            clear hc
            by_cases h0 : 16 ≤ z
            · have d0 : decide (16 ≤ z) = true := by simpa using h0
              by_cases h1 : z ≤ 512
              · have d1 : decide (z ≤ 512) = true := by simpa using h1
                by_cases h2 : z % 16 = 0
                · have d2 : decide (z % 16 = 0) = true := by simpa using h2
                  have e2 : (z % 16 == 0) = true := by simp [h2]
                  by_cases hi0 : i = 0
                  · have e3 : ((i : Int) == 0) = true := by simp [hi0]
                    have HZ : Hid (ok = true) := by show ok = true; rw [HI.out, d0, d1, d2]; simp [hi0]
                    clear HI hi0 h2
                    go_wp2_with fail
                    go_round
                    case rel => exact ⟨i + 1, by omega, by rw [HS.out, HZ.out, HC.out]; rfl, by go_num⟩
                    case measure => simp [intOf]; omega
                  · have e3 : ((i : Int) == 0) = false := by simp; omega
                    obtain ⟨b2, off2, hq, hcell2⟩ := hr.out.at (j := i - 1) (by omega)
                    simp at hq
                    obtain ⟨rfl, rfl⟩ := hq
                    generalize f (i - 1) = y at *
                    by_cases hy : y < z
                    · have HZ : Hid (ok = true) := by show ok = true; rw [HI.out, d0, d1, d2]; simp [hy]
                      clear HI h2
                      go_wp2_with fail
                      go_round
                      case rel => exact ⟨i + 1, by omega, by rw [HS.out, HZ.out, HC.out]; rfl, by go_num⟩
                      case measure => simp [intOf]; omega
                    · have dy : decide (y < z) = false := by simpa using hy
                      have HZ : Hid (ok = false) := by show ok = false; rw [HI.out, d0, d1, d2, dy]; simp [hi0]
                      clear HI h2 hy
                      go_wp2_with fail
                      go_round
                      case rel => exact ⟨i + 1, by omega, by rw [HS.out, HZ.out, Bool.and_false], by go_num⟩
                      case measure => simp [intOf]; omega
                · have d2 : decide (z % 16 = 0) = false := by simpa using h2
                  have e2 : (z % 16 == 0) = false := by simp [h2]
                  have hz : ok = false := by rw [HI.out]; simp [h2]
                  have HZ := Lib.hid hz
                  clear hz HI h2
                  go_wp2_with fail
                  go_round
                  case rel => exact ⟨i + 1, by omega, by rw [HS.out, HZ.out, Bool.and_false], by go_num⟩
                  case measure => simp [intOf]; omega
              · have d1 : decide (z ≤ 512) = false := by simpa using h1
                have hz : ok = false := by rw [HI.out, d1]; simp
                have HZ := Lib.hid hz
                clear hz HI h1
                go_wp2_with fail
                go_round
                case rel => exact ⟨i + 1, by omega, by rw [HS.out, HZ.out, Bool.and_false], by go_num⟩
                case measure => simp [intOf]; omega
            · have d0 : decide (16 ≤ z) = false := by simpa using h0
              have hz : ok = false := by rw [HI.out, d0]; simp
              have HZ := Lib.hid hz
              clear hz HI h0
              go_wp2_with fail
              go_round
              case rel => exact ⟨i + 1, by omega, by rw [HS.out, HZ.out, Bool.and_false], by go_num⟩
              case measure => simp [intOf]; omega
        · obtain rfl : i = len := by omega
          generalize (st && clsTo f i) = c at *
          go_wp2_with fail
          go_ret
          exact ⟨by rw [HM2.out]; rfl, HB.out⟩

end Go.Proofs.YtkogeeaoppkhkaaDoor
