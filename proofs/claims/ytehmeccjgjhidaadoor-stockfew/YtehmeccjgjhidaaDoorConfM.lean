/-
  Contracts of package conf's bounds: Record, Attempt, Call, State.
-/
import Derived.Test.YtehmeccjgjhidaaDoorProg
import Derived.Test.YtehmeccjgjhidaaDoorMemM
import Derived.WalkKit
import Derived.WalkSpells
import Derived.Lib.Hide
import Derived.OpenShut
import Derived.Deep.RegionHeld3
import Derived.BigQuiet
import Derived.Deep.DeepCutAuto
import Derived.Lib.SmallJoins
import Derived.Deep.AppendLies
import Derived.Deep.RegionLaw
import Derived.Laws.CopyOwn
import Derived.OwnWalk
namespace Go.Proofs.YtehmeccjgjhidaaDoor
open Go.RowKit

theorem below_alloc (w : World) (o : Obj) : Below w.heap.size w (w.alloc o) := (Below.refl _ _).alloc (Nat.le_refl _) o
theorem cret_int {k : IntKind} {a b : Int} (h : a = b) : Ending.returned (.int k a) = .returned (.int k b) := by rw [h]

def recI (a b : Int) : Int := a + 3 * b
def attI (a b : Int) : Int := 2 * (a + 3 * b) + 4 * b + 6
def callI (a b t : Int) : Int := attI a b * (t + 2) + 6
theorem att_bounds {a b : Int} (h0 : 0 ≤ a) (h1 : a ≤ 1048577) (h2 : 0 ≤ b) (h3 : b ≤ 1048577) : 6 ≤ attI a b ∧ attI a b ≤ 20000000 := by unfold attI; omega
theorem mul_bounds {A t : Int} (h0 : 0 ≤ A) (h1 : A ≤ 20000000) (h2 : 0 ≤ t) (h3 : t ≤ 1048577) : 0 ≤ A * (t + 2) ∧ A * (t + 2) ≤ 41943040000000 := by
  have h4 : 0 ≤ t + 2 := by omega
  refine ⟨Int.mul_nonneg h0 h4, ?_⟩
  calc A * (t + 2) ≤ 20000000 * (t + 2) := Int.mul_le_mul_of_nonneg_right h1 h4
    _ ≤ 41943040000000 := by omega

/-- A system's cells. -/
def cfg (W S B T : Int) (cl : Value) : Value := .agg #[.int .i64 W, .int .i64 S, .int .i64 B, .int .i64 T, cl]
def boundI (W S T : Int) : Int := callI (2 * S) W T + 2
/-- The five cells of a system in a block. -/
def Cfg5 (w : World) (N : Nat) (W S B T : Int) (cl : Value) : Prop := w.heap[N]? = some (.cells #[.int .i64 W, .int .i64 S, .int .i64 B, .int .i64 T, cl] 24 (0, 0))
theorem cfg_lt {w : World} {N : Nat} {W S B T : Int} {cl : Value} (h : Cfg5 w N W S B T cl) : N < w.heap.size := (Array.getElem?_eq_some_iff.1 h).1
theorem cfg_next {w w' : World} {N : Nat} {W S B T : Int} {cl : Value} (h : Cfg5 w N W S B T cl) (hb : Below w.heap.size w w') : Cfg5 w' N W S B T cl := (hb.block N (cfg_lt h)).trans h
theorem cfg_new (w : World) (W S B T : Int) (cl : Value) : Cfg5 (w.alloc (.cells #[.int .i64 W, .int .i64 S, .int .i64 B, .int .i64 T, cl] 24)) w.heap.size W S B T cl := by
  show (w.heap.push _)[w.heap.size]? = _
  rw [Array.getElem?_push, if_pos rfl]
theorem cfg_cells {w : World} {N : Nat} {W S B T : Int} {cl : Value} (h : Cfg5 w N W S B T cl) : w.cell? ⟨N, 0, none⟩ = some (.int .i64 W) ∧ w.cell? ⟨N, 1, none⟩ = some (.int .i64 S) ∧ w.cell? ⟨N, 2, none⟩ = some (.int .i64 B) ∧ w.cell? ⟨N, 3, none⟩ = some (.int .i64 T) ∧ w.cell? ⟨N, 4, none⟩ = some cl := by
  unfold Cfg5 at h
  refine ⟨?_, ?_, ?_, ?_, ?_⟩ <;> simp [World.cell?, h]

theorem below_drew2 {N : Nat} {w w1 w2 : World} (h : Below N w w1) (hN : N ≤ w1.drew.heap.size) (h2 : Below w1.drew.heap.size w1.drew w2) : Below N w w2 :=
  h.trans ⟨h2.os, h2.tape, h2.output, h2.size, fun k hk => h2.block k (Nat.lt_of_lt_of_le hk hN)⟩

end Go.Proofs.YtehmeccjgjhidaaDoor

/-
  Contracts of package conf's Check, by its parts: within, classesMayBe.
-/
namespace Go.Proofs.YtehmeccjgjhidaaDoor
open Go.RowKit

/-- A row of numbers, by the function that gives them. -/
def RowI (w : World) (a : Option Addr) (len : Nat) (f : Nat → Int) : Prop :=
  0 < len → ∃ b off, a = some ⟨b, off, none⟩ ∧ b < w.heap.size ∧ ∀ j, j < len → w.cell? ⟨b, off + j, none⟩ = some (.int .i64 (f j))
theorem RowI.next {w w' : World} {a : Option Addr} {len : Nat} {f : Nat → Int} (h : RowI w a len f) (hb : Below w.heap.size w w') : RowI w' a len f := fun h0 => by
  obtain ⟨b, off, e, hl, hc⟩ := h h0
  exact ⟨b, off, e, Nat.lt_of_lt_of_le hl hb.size, fun j hj => (hb.cell (p := ⟨b, off + j, none⟩) hl).trans (hc j hj)⟩
theorem RowI.at {w : World} {a : Option Addr} {len j : Nat} {f : Nat → Int} (h : RowI w a len f) (hj : j < len) : ∃ b off, a = some ⟨b, off, none⟩ ∧ w.cell? ⟨b, off + j, none⟩ = some (.int .i64 (f j)) := by
  obtain ⟨b, off, e, _, hc⟩ := h (by omega)
  exact ⟨b, off, e, hc j hj⟩

/-- May the class at a place be? -/
def clsAt (f : Nat → Int) (i : Nat) : Bool := decide (16 ≤ f i) && decide (f i ≤ 512) && decide (f i % 16 = 0) && (decide (i = 0) || decide (f (i - 1) < f i))
def clsTo (f : Nat → Int) : Nat → Bool
  | 0 => true
  | i + 1 => clsTo f i && clsAt f i
theorem clsTo_at {f : Nat → Int} : ∀ {n i : Nat}, clsTo f n = true → i < n → clsAt f i = true
  | n + 1, i, h, hi => by
    simp only [clsTo, Bool.and_eq_true] at h
    by_cases e : i = n
    · subst e; exact h.2
    · exact clsTo_at h.1 (by omega)
theorem clsTo_of {f : Nat → Int} : ∀ {n : Nat}, (∀ i, i < n → clsAt f i = true) → clsTo f n = true
  | 0, _ => rfl
  | n + 1, h => by simp only [clsTo, Bool.and_eq_true]; exact ⟨clsTo_of fun i hi => h i (by omega), h n (by omega)⟩
theorem clsTo_not {f : Nat → Int} {n i : Nat} (hi : i < n) (h : clsAt f i = false) : clsTo f n = false := by
  rcases hc : clsTo f n with _ | _
  · rfl
  · have := clsTo_at hc hi; rw [h] at this; cases this
/-- What stands ahead of a place: 0 ahead of the first. -/
def ahead (f : Nat → Int) : Nat → Int
  | 0 => 0
  | i + 1 => f i
theorem cls_iff (f : Nat → Int) (i : Nat) : clsAt f i = (decide (ahead f i < f i) && decide (f i % 16 = 0) && (decide (16 ≤ f i) && decide (f i ≤ 512))) := by
  rw [Bool.eq_iff_iff]
  cases i with
  | zero =>
    simp only [clsAt, Bool.and_eq_true, Bool.or_eq_true, decide_eq_true_eq]
    simp only [ahead]
    constructor
    · rintro ⟨⟨⟨h1, h2⟩, h3⟩, h4⟩; exact ⟨⟨by omega, h3⟩, h1, h2⟩
    · rintro ⟨⟨h1, h2⟩, h3, h4⟩; exact ⟨⟨⟨h3, h4⟩, h2⟩, by simp⟩
  | succ i =>
    simp only [clsAt, Bool.and_eq_true, Bool.or_eq_true, decide_eq_true_eq]
    simp only [ahead, Nat.add_sub_cancel]
    constructor
    · rintro ⟨⟨⟨h1, h2⟩, h3⟩, h4⟩; exact ⟨⟨by omega, h3⟩, h1, h2⟩
    · rintro ⟨⟨h1, h2⟩, h3, h4⟩; exact ⟨⟨⟨h3, h4⟩, h2⟩, .inr h1⟩
theorem ahead_nonneg {f : Nat → Int} {i : Nat} (h : clsTo f i = true) : 0 ≤ ahead f i := by
  cases i with
  | zero => exact Int.le_refl _
  | succ i => have := clsTo_at h (Nat.lt_succ_self i); simp [clsAt] at this; simp [ahead]; omega

def clsAll (len : Nat) (f : Nat → Int) : Bool := (decide (1 ≤ (len : Int)) && decide ((len : Int) ≤ 16)) && clsTo f len

end Go.Proofs.YtehmeccjgjhidaaDoor

/-
  Contracts of package conf's Check, and of the document's own May.
-/
namespace Go.Proofs.YtehmeccjgjhidaaDoor
open Go.RowKit

/-- May the numbers of a system be? -/
def in4 (x a b : Int) : Bool := decide (a ≤ x) && decide (x ≤ b)
def numB (W S B T : Int) : Bool := in4 W 1 64 && in4 S 1 64 && in4 B 1 64 && in4 T 0 8
/-- May a system be? -/
def mayB (W S B T : Int) (len : Nat) (f : Nat → Int) : Bool := numB W S B T && clsAll len f
def errI (b : Bool) : Int := if b then 0 else 1

end Go.Proofs.YtehmeccjgjhidaaDoor

/-
  Contract of the document's own May of layer 4.
-/
namespace Go.Proofs.YtehmeccjgjhidaaDoor
open Go.RowKit

set_option maxRecDepth 20000 in
set_option maxHeartbeats 4000000 in
theorem rmay_any (W S B T : Int) (ad : Option Addr) (len cap : Nat) (f : Nat → Int) (w : World) (hr0 : Hid (RowI w ad len f)) (hl : len < 9223372036854775808) :
    Calls Tryd.prog 5 #[.agg #[.int .i64 W, .int .i64 S, .int .i64 B, .int .i64 T, .slice ad len cap]] w fun e w' => e = .returned (.bool (mayB W S B T len f)) ∧ Below w.heap.size w w' := by
  have hb0 := below_alloc w (.cells #[.int .i64 W, .int .i64 S, .int .i64 B, .int .i64 T, .slice ad len cap] 24)
  have HB := Lib.hid hb0
  have hr : Hid (RowI (w.alloc (.cells #[.int .i64 W, .int .i64 S, .int .i64 B, .int .i64 T, .slice ad len cap] 24)) ad len f) := hr0.out.next hb0
  have HM : Hid (mayB W S B T len f = (numB W S B T && ((decide (1 ≤ (len : Int)) && decide ((len : Int) ≤ 16)) && clsTo f len))) := rfl
  have C0 := cfg_new w W S B T (.slice ad len cap)
  clear hb0
  generalize mayB W S B T len f = M at *
  go_enter Tryd.func5, Tryd.ntmps5
  go_upto_region 1 with fail
  generalize w.alloc (.cells #[.int .i64 W, .int .i64 S, .int .i64 B, .int .i64 T, .slice ad len cap] 24) = w0 at *
  generalize hN : w.heap.size = N at *
  obtain ⟨c0, c1, c2, c3, c4⟩ := cfg_cells C0
  clear C0
  go_cut [3] (fun v wx => v = .bool (numB W S B T) ∧ wx = w0)
  case first =>
    by_cases h0 : 1 ≤ W
    · have d0 : decide (1 ≤ W) = true := by simpa using h0
      by_cases h1 : W ≤ 64
      · have d1 : decide (W ≤ 64) = true := by simpa using h1
        by_cases h2 : 1 ≤ S
        · have d2 : decide (1 ≤ S) = true := by simpa using h2
          by_cases h3 : S ≤ 64
          · have d3 : decide (S ≤ 64) = true := by simpa using h3
            by_cases h4 : 1 ≤ B
            · have d4 : decide (1 ≤ B) = true := by simpa using h4
              by_cases h5 : B ≤ 64
              · have d5 : decide (B ≤ 64) = true := by simpa using h5
                by_cases h6 : 0 ≤ T
                · have d6 : decide (0 ≤ T) = true := by simpa using h6
                  by_cases h7 : T ≤ 8
                  · have d7 : decide (T ≤ 8) = true := by simpa using h7
                    have HN : Hid (numB W S B T = true) := by show numB W S B T = _; unfold numB in4; rw [d0, d1, d2, d3, d4, d5, d6, d7]; rfl
                    go_wp2_with fail
                    go_meet
                    case rel => exact ⟨by rw [HN.out], rfl⟩
                  · have d7 : decide (T ≤ 8) = false := by simpa using h7
                    have HN : Hid (numB W S B T = false) := by show numB W S B T = _; unfold numB in4; rw [d0, d1, d2, d3, d4, d5, d6, d7]; simp
                    clear h7
                    go_wp2_with fail
                    go_meet
                    case rel => exact ⟨by rw [HN.out], rfl⟩
                · have d6 : decide (0 ≤ T) = false := by simpa using h6
                  have HN : Hid (numB W S B T = false) := by show numB W S B T = _; unfold numB in4; rw [d0, d1, d2, d3, d4, d5, d6]; simp
                  clear h6
                  go_wp2_with fail
                  go_meet
                  case rel => exact ⟨by rw [HN.out], rfl⟩
              · have d5 : decide (B ≤ 64) = false := by simpa using h5
                have HN : Hid (numB W S B T = false) := by show numB W S B T = _; unfold numB in4; rw [d0, d1, d2, d3, d4, d5]; simp
                clear h5
                go_wp2_with fail
                go_meet
                case rel => exact ⟨by rw [HN.out], rfl⟩
            · have d4 : decide (1 ≤ B) = false := by simpa using h4
              have HN : Hid (numB W S B T = false) := by show numB W S B T = _; unfold numB in4; rw [d0, d1, d2, d3, d4]; simp
              clear h4
              go_wp2_with fail
              go_meet
              case rel => exact ⟨by rw [HN.out], rfl⟩
          · have d3 : decide (S ≤ 64) = false := by simpa using h3
            have HN : Hid (numB W S B T = false) := by show numB W S B T = _; unfold numB in4; rw [d0, d1, d2, d3]; simp
            clear h3
            go_wp2_with fail
            go_meet
            case rel => exact ⟨by rw [HN.out], rfl⟩
        · have d2 : decide (1 ≤ S) = false := by simpa using h2
          have HN : Hid (numB W S B T = false) := by show numB W S B T = _; unfold numB in4; rw [d0, d1, d2]; simp
          clear h2
          go_wp2_with fail
          go_meet
          case rel => exact ⟨by rw [HN.out], rfl⟩
      · have d1 : decide (W ≤ 64) = false := by simpa using h1
        have HN : Hid (numB W S B T = false) := by show numB W S B T = _; unfold numB in4; rw [d0, d1]; simp
        clear h1
        go_wp2_with fail
        go_meet
        case rel => exact ⟨by rw [HN.out], rfl⟩
    · have d0 : decide (1 ≤ W) = false := by simpa using h0
      have HN : Hid (numB W S B T = false) := by show numB W S B T = _; unfold numB in4; rw [d0]; simp
      clear h0
      go_wp2_with fail
      go_meet
      case rel => exact ⟨by rw [HN.out], rfl⟩
  case rest =>
    obtain ⟨rfl, hwx⟩ := hcut
    obtain rfl : w0 = wc := hwx.symm
    generalize numB W S B T = nb at *
    go_upto_region 2 with fail
    go_cut [3] (fun v wx => v = .bool (nb && (decide (1 ≤ (len : Int)) && decide ((len : Int) ≤ 16))) ∧ wx = w0)
    case first =>
      cases nb
      · go_wp2_with fail
        go_meet
        case rel => exact ⟨rfl, rfl⟩
      · by_cases h0 : 1 ≤ (len : Int)
        · have d0 : decide (1 ≤ (len : Int)) = true := by simpa using h0
          by_cases h1 : (len : Int) ≤ 16
          · have d1 : decide ((len : Int) ≤ 16) = true := by simpa using h1
            have HN : Hid ((true && (decide (1 ≤ (len : Int)) && decide ((len : Int) ≤ 16))) = true) := by show _ = _; rw [d0, d1]; rfl
            go_wp2_with fail
            go_meet
            case rel => exact ⟨by rw [HN.out], rfl⟩
          · have d1 : decide ((len : Int) ≤ 16) = false := by simpa using h1
            have HN : Hid ((true && (decide (1 ≤ (len : Int)) && decide ((len : Int) ≤ 16))) = false) := by show _ = _; rw [d0, d1]; simp
            clear h1
            go_wp2_with fail
            go_meet
            case rel => exact ⟨by rw [HN.out], rfl⟩
        · have d0 : decide (1 ≤ (len : Int)) = false := by simpa using h0
          have HN : Hid ((true && (decide (1 ≤ (len : Int)) && decide ((len : Int) ≤ 16))) = false) := by show _ = _; rw [d0]; simp
          clear h0
          go_wp2_with fail
          go_meet
          case rel => exact ⟨by rw [HN.out], rfl⟩
    case rest =>
      obtain ⟨rfl, hwx⟩ := hcut
      obtain rfl : w0 = wc := hwx.symm
      have HM2 : Hid (M = ((nb && (decide (1 ≤ (len : Int)) && decide ((len : Int) ≤ 16))) && clsTo f len)) := by show M = _; rw [HM.out]; simp only [Bool.and_assoc]
      clear HM
      generalize (nb && (decide (1 ≤ (len : Int)) && decide ((len : Int) ≤ 16))) = st at *
      go_wp2_with fail
      go_loop [3, 4] (fun v u => ∃ i : Nat, i ≤ len ∧ v = .bool (st && clsTo f i) ∧ u = .int .i64 i) (fun _ u => len - (intOf u).toNat)
      case atStart => exact ⟨0, Nat.zero_le _, by simp [clsTo], rfl⟩
      case round =>
        obtain ⟨i, hi, rfl, rfl⟩ := hrel
        by_cases hlt : i < len
        · obtain ⟨b, off, rfl, hcell⟩ := hr.out.at hlt
          have l2 : (i : Int) < (len : Int) := by omega
          have HI : Hid (clsAt f i = (decide (16 ≤ f i) && decide (f i ≤ 512) && decide (f i % 16 = 0) && (decide (i = 0) || decide (f (i - 1) < f i)))) := rfl
          have HS : Hid ((st && clsTo f (i + 1)) = ((st && clsTo f i) && clsAt f i)) := by show (st && (clsTo f i && clsAt f i)) = _; rw [Bool.and_assoc]
          generalize clsAt f i = ok at *
          generalize f i = z at *
          rcases hc : (st && clsTo f i) with _ | _
          · have HC := Lib.hid hc
            clear hc HI
            go_wp2_with fail
            go_round
            case rel => exact ⟨i + 1, by omega, by rw [HS.out, HC.out, Bool.false_and], by go_num⟩
            case measure => simp [intOf]; omega
          · have HC := Lib.hid hc
            clear hc
            by_cases h0 : 16 ≤ z
            · have d0 : decide (16 ≤ z) = true := by simpa using h0
              by_cases h1 : z ≤ 512
              · have d1 : decide (z ≤ 512) = true := by simpa using h1
                by_cases h2 : z % 16 = 0
                · have d2 : decide (z % 16 = 0) = true := by simpa using h2
                  have e2 : (z % 16 == 0) = true := by simp [h2]
                  by_cases hi0 : i = 0
                  · have e3 : ((i : Int) == 0) = true := by simp [hi0]
                    have HZ : Hid (ok = true) := by show ok = true; rw [HI.out, d0, d1, d2]; simp [hi0]
                    clear HI hi0 h2
                    go_wp2_with fail
                    go_round
                    case rel => exact ⟨i + 1, by omega, by rw [HS.out, HZ.out, HC.out]; rfl, by go_num⟩
                    case measure => simp [intOf]; omega
                  · have e3 : ((i : Int) == 0) = false := by simp; omega
                    obtain ⟨b2, off2, hq, hcell2⟩ := hr.out.at (j := i - 1) (by omega)
                    simp at hq
                    obtain ⟨rfl, rfl⟩ := hq
                    generalize f (i - 1) = y at *
                    by_cases hy : y < z
                    · have HZ : Hid (ok = true) := by show ok = true; rw [HI.out, d0, d1, d2]; simp [hy]
                      clear HI h2
                      go_wp2_with fail
                      go_round
                      case rel => exact ⟨i + 1, by omega, by rw [HS.out, HZ.out, HC.out]; rfl, by go_num⟩
                      case measure => simp [intOf]; omega
                    · have dy : decide (y < z) = false := by simpa using hy
                      have HZ : Hid (ok = false) := by show ok = false; rw [HI.out, d0, d1, d2, dy]; simp [hi0]
                      clear HI h2 hy
                      go_wp2_with fail
                      go_round
                      case rel => exact ⟨i + 1, by omega, by rw [HS.out, HZ.out, Bool.and_false], by go_num⟩
                      case measure => simp [intOf]; omega
                · have d2 : decide (z % 16 = 0) = false := by simpa using h2
                  have e2 : (z % 16 == 0) = false := by simp [h2]
                  have hz : ok = false := by rw [HI.out]; simp [h2]
                  have HZ := Lib.hid hz
                  clear hz HI h2
                  go_wp2_with fail
                  go_round
                  case rel => exact ⟨i + 1, by omega, by rw [HS.out, HZ.out, Bool.and_false], by go_num⟩
                  case measure => simp [intOf]; omega
              · have d1 : decide (z ≤ 512) = false := by simpa using h1
                have hz : ok = false := by rw [HI.out, d1]; simp
                have HZ := Lib.hid hz
                clear hz HI h1
                go_wp2_with fail
                go_round
                case rel => exact ⟨i + 1, by omega, by rw [HS.out, HZ.out, Bool.and_false], by go_num⟩
                case measure => simp [intOf]; omega
            · have d0 : decide (16 ≤ z) = false := by simpa using h0
              have hz : ok = false := by rw [HI.out, d0]; simp
              have HZ := Lib.hid hz
              clear hz HI h0
              go_wp2_with fail
              go_round
              case rel => exact ⟨i + 1, by omega, by rw [HS.out, HZ.out, Bool.and_false], by go_num⟩
              case measure => simp [intOf]; omega
        · obtain rfl : i = len := by omega
          generalize (st && clsTo f i) = c at *
          go_wp2_with fail
          go_ret
          exact ⟨by rw [HM2.out]; rfl, HB.out⟩

end Go.Proofs.YtehmeccjgjhidaaDoor

/-
  Contract of the statements' own 'speaks' of layer 4; of the document's own Bound.
-/
namespace Go.Proofs.YtehmeccjgjhidaaDoor
open Go.RowKit

theorem below_after {w w1 w2 : World} (h : Below w.heap.size w w1) (h2 : Below w1.heap.size w1 w2) : Below w.heap.size w w2 := h.trans (h2.mono h.size)
def two (j : Nat) : Int := if j = 0 then 16 else 64
theorem two_row {w : World} {N : Nat} (h : w.heap[N]? = some (.cells #[.int .i64 16, .int .i64 64] 3 (0, 0))) : RowI w (some ⟨N, 0, none⟩) 2 two := fun _ => by
  refine ⟨N, 0, rfl, (Array.getElem?_eq_some_iff.1 h).1, fun j hj => ?_⟩
  rcases (by omega : j = 0 ∨ j = 1) with rfl | rfl
  · simp [World.cell?, h, two]
  · simp [World.cell?, h, two]
theorem nil_row (w : World) (f : Nat → Int) : RowI w none 0 f := fun h => absurd h (by omega)
theorem two_may : mayB 2 1 4 0 2 two = true := by decide
theorem none_may : mayB 0 0 0 0 0 two = false := by decide
theorem bound_two : boundI 2 1 0 = 68 := by decide
theorem rec_two : recI 2 2 = 8 := by decide
theorem heap_at (w : World) (o : Obj) : (w.alloc o).heap[w.heap.size]? = some o := by
  show (w.heap.push o)[w.heap.size]? = _
  rw [Array.getElem?_push, if_pos rfl]

theorem bound_form (W S T : Int) : boundI W S T = (T + 2) * (2 * (2 * S + 3 * W) + 4 * W + 6) + 8 := by
  unfold boundI callI attI
  rw [Int.mul_comm (2 * (2 * S + 3 * W) + 4 * W + 6) (T + 2)]
  omega

end Go.Proofs.YtehmeccjgjhidaaDoor

/-
  A system that came in, as the walks take it: four numbers, and a row of classes.
-/
namespace Go.Proofs.YtehmeccjgjhidaaDoor
open Go.Joins Go.ChangeShapes Go.WideShapes Go.RowKit Go.Deep

theorem array5 {α : Type} {cs : Array α} (h : cs.size = 5) : ∃ c0 c1 c2 c3 c4, cs = #[c0, c1, c2, c3, c4] := by
  obtain ⟨l⟩ := cs
  match l, h with
  | [c0, c1, c2, c3, c4], _ => exact ⟨c0, c1, c2, c3, c4, rfl⟩
section
variable {H : Type} {enc : TypeId × Value → H} {w : World} {base : Nat} {spare : Nat → Bool} {held : Bool}
theorem row_ints {fuel : Nat} {v : Value} {y : DataW H × List MemPlace} (h : DataW.trod enc Tryd.prog w base spare held fuel 22 [v] = some y) :
    ∃ ad len cap f, v = .slice ad len cap ∧ RowI w ad len f ∧ len ≤ maxLen ∧ (ad = none → len = 0 ∧ cap = 0) ∧ len ≤ cap ∧ cap ≤ maxLen := by
  rcases open_ints Tryd.underlying22 Tryd.underlying3 (by kernel_rfl) h with ⟨hcs, _⟩ | ⟨x, l, c, zs, hcs, _, hl, hm, hz, _, hcell, hwz⟩
  · simp at hcs
    subst hcs
    exact ⟨none, 0, 0, fun _ => 0, rfl, fun h => absurd h (by omega), Nat.zero_le _, fun _ => ⟨rfl, rfl⟩, Nat.le_refl _, Nat.zero_le _⟩
  · simp at hcs
    subst hcs
    refine ⟨some x, l, c, fun j => zs.getD j 0, rfl, fun h0 => ?_, by omega, (fun h => by cases h), hl, hm⟩
    have hz' : l ≤ zs.length := by rw [hz]; split <;> omega
    obtain ⟨b, off, rfl, hc⟩ := ints_at hcell (by omega)
    exact ⟨b, off, rfl, World.block_lt_of_cell? w ⟨b, off + 0, none⟩ (hc 0 (by omega)), fun j hj => hc j (by omega)⟩
theorem trod_struct5 {P : Program} {t : TypeId} {f0 f1 f2 f3 f4 : Field} {fuel : Nat} {cs : List Value} {x : DataW H × List MemPlace} (ht : P.underlying t = some (.struct #[f0, f1, f2, f3, f4])) (h : DataW.trod enc P w base spare held fuel t cs = some x) :
    ∃ y0 y1 y2 y3 y4 n, DataW.trod enc P w base spare held n f0.type ((cs.drop f0.offset).take (P.cellsOf f0.type)) = some y0 ∧
      DataW.trod enc P w base spare held n f1.type ((cs.drop f1.offset).take (P.cellsOf f1.type)) = some y1 ∧ DataW.trod enc P w base spare held n f2.type ((cs.drop f2.offset).take (P.cellsOf f2.type)) = some y2 ∧
      DataW.trod enc P w base spare held n f3.type ((cs.drop f3.offset).take (P.cellsOf f3.type)) = some y3 ∧ DataW.trod enc P w base spare held n f4.type ((cs.drop f4.offset).take (P.cellsOf f4.type)) = some y4 := by
  obtain ⟨xs, n, _, rfl, hl, hlen, hf⟩ := DataW.trod_struct ht h
  match xs, hlen with
  | [y0, y1, y2, y3, y4], _ => exact ⟨y0, y1, y2, y3, y4, n, by simpa using hf 0 f0 rfl, by simpa using hf 1 f1 rfl, by simpa using hf 2 f2 rfl, by simpa using hf 3 f3 rfl, by simpa using hf 4 f4 rfl⟩
set_option maxRecDepth 8000 in
theorem open_cfg {r : Reach} {b0 : Nat} {v : Value} {d : DataW H} {p : List MemPlace} (hv : Value.okWide Tryd.prog w r b0 24 v) (h : DataW.Trod enc Tryd.prog w base spare held 24 v d p) :
    ∃ (W S B T : Int) (ad : Option Addr) (len cap : Nat) (f : Nat → Int), v = .agg #[.int .i64 W, .int .i64 S, .int .i64 B, .int .i64 T, .slice ad len cap] ∧ RowI w ad len f ∧ len ≤ maxLen ∧ (ad = none → len = 0 ∧ cap = 0) ∧ len ≤ cap ∧ cap ≤ maxLen := by
  obtain ⟨cs, hcs, hsz⟩ := okWide_struct (P := Tryd.prog) (w := w) (r := r) (base := b0) (t := 24) (v := v) Tryd.underlying24 hv
  subst hcs
  have h5 : cs.size = 5 := hsz.trans (by kernel_rfl)
  obtain ⟨c0, c1, c2, c3, c4, rfl⟩ := array5 h5
  obtain ⟨fuel, hf⟩ := h
  obtain ⟨y0, y1, y2, y3, y4, n, h0, h1, h2, h3, h4⟩ := trod_struct5 Tryd.underlying24 hf
  have cI : Tryd.prog.cellsOf 3 = 1 := by kernel_rfl
  have cS : Tryd.prog.cellsOf 22 = 1 := by kernel_rfl
  simp only [Value.cells, cI, cS, List.drop_zero, List.drop_succ_cons, List.take_succ_cons, List.take_zero] at h0 h1 h2 h3 h4
  obtain ⟨W, e0, _, _⟩ := DataW.trod_int Tryd.underlying3 h0
  obtain ⟨S, e1, _, _⟩ := DataW.trod_int Tryd.underlying3 h1
  obtain ⟨B, e2, _, _⟩ := DataW.trod_int Tryd.underlying3 h2
  obtain ⟨T, e3, _, _⟩ := DataW.trod_int Tryd.underlying3 h3
  obtain ⟨ad, len, cap, f, e4, hr, hl, hn, hlc, hcm⟩ := row_ints h4
  simp at e0 e1 e2 e3
  subst e0 e1 e2 e3 e4
  exact ⟨W, S, B, T, ad, len, cap, f, rfl, hr, hl, hn, hlc, hcm⟩
end

end Go.Proofs.YtehmeccjgjhidaaDoor

/-
  What is known of a system that may be.
-/
namespace Go.Proofs.YtehmeccjgjhidaaDoor
open Go.RowKit

theorem may_nums {W S B T : Int} {len : Nat} {f : Nat → Int} (h : mayB W S B T len f = true) : (1 ≤ W ∧ W ≤ 64) ∧ (1 ≤ S ∧ S ≤ 64) ∧ (1 ≤ B ∧ B ≤ 64) ∧ (0 ≤ T ∧ T ≤ 8) ∧ (1 ≤ len ∧ len ≤ 16) ∧ clsTo f len = true := by
  simp [mayB, numB, in4, clsAll] at h
  exact ⟨by omega, by omega, by omega, by omega, by omega, h.2.2⟩
theorem may_of {W S B T : Int} {len : Nat} {f : Nat → Int} (h1 : 1 ≤ W ∧ W ≤ 64) (h2 : 1 ≤ S ∧ S ≤ 64) (h3 : 1 ≤ B ∧ B ≤ 64) (h4 : 0 ≤ T ∧ T ≤ 8) (h5 : 1 ≤ len ∧ len ≤ 16) (h6 : clsTo f len = true) : mayB W S B T len f = true := by
  simp [mayB, numB, in4, clsAll]
  exact ⟨by omega, by omega, h6⟩

end Go.Proofs.YtehmeccjgjhidaaDoor

/-
  Laws of append for the walks: of whatever many elements (none, too; nil, too), onto a row that the call itself made.
-/
namespace Go.Proofs.YtehmeccjgjhidaaDoor
open Go.RowKit

section
variable {P : Program} (w : World)
theorem own_lt {w : World} {e : TypeId} {g0 n c0 : Nat} {xs : List Value} (hown : w.ownsRow 0 e 1 (.slice (some ⟨g0, 0, none⟩) n c0) n xs) : g0 < w.heap.size ∧ n ≤ c0 := by
  rcases hown.2 with ⟨h', _⟩ | ⟨g', cap', cur, h', hb, hg, hnc, _⟩
  · simp at h'
  · simp only [Value.slice.injEq, Option.some.injEq, Addr.mk.injEq, and_true, true_and] at h'
    obtain ⟨rfl, rfl⟩ := h'
    exact ⟨(Array.getElem?_eq_some_iff.1 hg).1, hnc⟩
theorem wp_append_gen {o : Oper} {a : Act} {K : Act → World → Prop} {Q : Exit → Act → World → Prop} (s x : Operand) (t : TypeId)
    (ho : o.op = .call { callee := .builtin .append, args := #[s, x], argTypes := #[t, t] })
    (e : TypeId) (i : TypeInfo) (z : Value) (bytes : Nat) (ht : P.underlying t = some (.slice e)) (hi : P.info? e = some i) (hz : i.zero = some z)
    (hsize : i.size = 1) (hby : i.bytes = bytes) (hzs : z.cells.size = 1)
    (g0 n c0 : Nat) (xs : List Value) (hs : a.eval s = .slice (some ⟨g0, 0, none⟩) n c0) (hown : w.ownsRow 0 e 1 (.slice (some ⟨g0, 0, none⟩) n c0) n xs)
    (ao : Option Addr) (m c : Nat) (news : List Value) (hx : a.eval x = .slice ao m c) (hnil : ao = none → m = 0 ∧ c = 0) (hl : news.length = m) (hnews : ∀ ad, ao = some ad → ∀ j u, news[j]? = some u → w.cell? (ad.add j) = some u) (h1 : ∀ u ∈ news, u.oneCell' = true)
    (h63 : n + m ≤ maxLen) (hbytes : (n + m) * bytes ≤ 140737488355328) (H : Nat) (hH : w.heap.size = H)
    (h : ∀ g cap w', w'.ownsRow 0 e 1 (.slice (some ⟨g, 0, none⟩) (n + m) cap) (n + m) (xs ++ news) → w.grownBy w' (some g0) → (g = g0 ∨ g = H) → g < w'.heap.size → K (a.put o.dst (.slice (some ⟨g, 0, none⟩) (n + m) cap)) w') :
    o.wp P a w K Q := by
  obtain ⟨hlt, hnc⟩ := own_lt hown
  cases ao with
  | none =>
    obtain ⟨rfl, rfl⟩ := hnil rfl
    obtain rfl : news = [] := List.eq_nil_of_length_eq_zero hl
    have hrun := run_append_owned_none (P := P) w 0 t o.type e i 1 ht hi _ n xs hown
    unfold Oper.wp
    simp [execOp, ho, resolve, invoke, builtin, hs, hx, hrun, Result.andThen]
    exact h g0 c0 w (by simpa using hown) (World.grownBy.refl _ _) (.inl rfl) hlt
  | some ad =>
    by_cases hm : m = 0
    · subst hm
      obtain rfl : news = [] := List.eq_nil_of_length_eq_zero hl
      have hrun := run_append_room_cells (P := P) w t o.type e i ht hi g0 0 n c0 ad 0 c [] (by simp) (by intro j u hu; simp at hu) (by intro u hu; simp at hu) (by omega) (by intro j hj; simp at hj) (by intro j hj; simp at hj)
      unfold Oper.wp
      simp [execOp, ho, resolve, invoke, builtin, hs, hx, hrun, Result.andThen]
      exact h g0 c0 w (by simpa using hown) (World.grownBy.refl _ _) (.inl rfl) hlt
    · refine wp_append_lies w s x t ho 0 e i z 1 bytes ht hi hz hsize hby hzs (by omega) (.slice (some ⟨g0, 0, none⟩) n c0) n xs hs hown ad m c news hx (by omega) (hnews ad rfl) h1 (by omega) h63 hbytes (Nat.zero_le _) H hH ?_
      intro g cap w' h2 h3 h4 h5
      refine h g cap w' h2 h3 ?_ h5
      rcases h4 with h4 | h4
      · exact .inl (Option.some.inj (show some g0 = some g from h4)).symm
      · exact .inr h4
theorem wpList_append_gen {ops : Array Oper} {rest : List Oper} {o : Oper} {a : Act} {Q : Exit → Act → World → Prop} (hgd : o.guard = none) (s x : Operand) (t : TypeId)
    (ho : o.op = .call { callee := .builtin .append, args := #[s, x], argTypes := #[t, t] })
    (e : TypeId) (i : TypeInfo) (z : Value) (bytes : Nat) (ht : P.underlying t = some (.slice e)) (hi : P.info? e = some i) (hz : i.zero = some z)
    (hsize : i.size = 1) (hby : i.bytes = bytes) (hzs : z.cells.size = 1)
    (g0 n c0 : Nat) (xs : List Value) (hs : a.eval s = .slice (some ⟨g0, 0, none⟩) n c0) (hown : w.ownsRow 0 e 1 (.slice (some ⟨g0, 0, none⟩) n c0) n xs)
    (ao : Option Addr) (m c : Nat) (news : List Value) (hx : a.eval x = .slice ao m c) (hnil : ao = none → m = 0 ∧ c = 0) (hl : news.length = m) (hnews : ∀ ad, ao = some ad → ∀ j u, news[j]? = some u → w.cell? (ad.add j) = some u) (h1 : ∀ u ∈ news, u.oneCell' = true)
    (h63 : n + m ≤ maxLen) (hbytes : (n + m) * bytes ≤ 140737488355328) (H : Nat) (hH : w.heap.size = H)
    (h : ∀ g cap w', w'.ownsRow 0 e 1 (.slice (some ⟨g, 0, none⟩) (n + m) cap) (n + m) (xs ++ news) → w.grownBy w' (some g0) → (g = g0 ∨ g = H) → g < w'.heap.size → wpList P ops Q rest (a.put o.dst (.slice (some ⟨g, 0, none⟩) (n + m) cap)) w') :
    wpList P ops Q (o :: rest) a w :=
  wpList_plain hgd fun _ hK => wp_append_gen w s x t ho e i z bytes ht hi hz hsize hby hzs g0 n c0 xs hs hown ao m c news hx hnil hl hnews h1 h63 hbytes H hH fun g cap w' h2 h3 h4 h5 => hK _ _ (h g cap w' h2 h3 h4 h5)
theorem step_append_gen {ops : Array Oper} {o : Oper} {a : Act} {K : Act → World → Prop} {Q : Exit → Act → World → Prop} {E : Prop} (hgd : o.guard = none) (s x : Operand) (t : TypeId)
    (ho : o.op = .call { callee := .builtin .append, args := #[s, x], argTypes := #[t, t] })
    (e : TypeId) (i : TypeInfo) (z : Value) (bytes : Nat) (ht : P.underlying t = some (.slice e)) (hi : P.info? e = some i) (hz : i.zero = some z)
    (hsize : i.size = 1) (hby : i.bytes = bytes) (hzs : z.cells.size = 1)
    (g0 n c0 : Nat) (xs : List Value) (hs : a.eval s = .slice (some ⟨g0, 0, none⟩) n c0) (hown : w.ownsRow 0 e 1 (.slice (some ⟨g0, 0, none⟩) n c0) n xs)
    (ao : Option Addr) (m c : Nat) (news : List Value) (hx : a.eval x = .slice ao m c) (hnil : ao = none → m = 0 ∧ c = 0) (hl : news.length = m) (hnews : ∀ ad, ao = some ad → ∀ j u, news[j]? = some u → w.cell? (ad.add j) = some u) (h1 : ∀ u ∈ news, u.oneCell' = true)
    (h63 : n + m ≤ maxLen) (hbytes : (n + m) * bytes ≤ 140737488355328) (H : Nat) (hH : w.heap.size = H)
    (h : ∀ g cap w', w'.ownsRow 0 e 1 (.slice (some ⟨g, 0, none⟩) (n + m) cap) (n + m) (xs ++ news) → w.grownBy w' (some g0) → (g = g0 ∨ g = H) → g < w'.heap.size → K (a.put o.dst (.slice (some ⟨g, 0, none⟩) (n + m) cap)) w') :
    if Region.wanted o (yielded ops a.tmps) = true then Oper.wp P o a w K Q else E := by
  have hw : Region.wanted o (yielded ops a.tmps) = true := by simp [Region.wanted, hgd]
  rw [if_pos hw]
  exact wp_append_gen w s x t ho e i z bytes ht hi hz hsize hby hzs g0 n c0 xs hs hown ao m c news hx hnil hl hnews h1 h63 hbytes H hH h
end

/-- Numbers, as the cells of a row. -/
def numsOf (f : Nat → Int) (n : Nat) : List Value := (List.range n).map fun j => .int .i64 (f j)
theorem nums_len (f : Nat → Int) (n : Nat) : (numsOf f n).length = n := by simp [numsOf]
theorem nums_one (f : Nat → Int) (n : Nat) : ∀ u ∈ numsOf f n, u.oneCell' = true := by
  intro u hu
  simp [numsOf] at hu
  obtain ⟨j, _, rfl⟩ := hu
  rfl
theorem nums_at {f : Nat → Int} {n j : Nat} {u : Value} (h : (numsOf f n)[j]? = some u) : j < n ∧ u = .int .i64 (f j) := by
  have hj : j < n := by have := (List.getElem?_eq_some_iff.1 h).1; rwa [nums_len] at this
  refine ⟨hj, ?_⟩
  simp [numsOf, hj] at h
  exact h.symm
theorem nums_get {f : Nat → Int} {n j : Nat} (h : j < n) : (numsOf f n)[j]? = some (.int .i64 (f j)) := by simp [numsOf, h]
theorem nums_set {f : Nat → Int} {n j : Nat} (v : Int) : (numsOf f n).set j (.int .i64 v) = numsOf (fun i => if i = j then v else f i) n := by
  apply List.ext_getElem
  · simp [numsOf]
  · intro i h1 h2
    simp only [numsOf, List.getElem_set, List.getElem_map, List.getElem_range]
    by_cases h : j = i
    · subst h; simp
    · rw [if_neg h, if_neg (fun e => h e.symm)]
theorem nums_app (f : Nat → Int) (a b : Nat) : numsOf f a ++ numsOf (fun j => f (a + j)) b = numsOf f (a + b) := by
  apply List.ext_getElem
  · simp [numsOf]
  · intro i h1 h2
    simp only [numsOf, List.getElem_append, List.length_map, List.length_range, List.getElem_map, List.getElem_range]
    split
    · rfl
    · rename_i h; rw [show a + (i - a) = i from by omega]
/-- A row of cells as a row of numbers. -/
theorem row_block {w : World} {b len : Nat} {f : Nat → Int} {cur : Array Value} {t : TypeId} {r : Nat × Nat} (h : w.heap[b]? = some (.cells cur t r)) (hc : cur.toList.take len = numsOf f len) : RowI w (some ⟨b, 0, none⟩) len f := fun _ => by
  refine ⟨b, 0, rfl, (Array.getElem?_eq_some_iff.1 h).1, fun j hj => ?_⟩
  have e : (cur.toList.take len)[j]? = some (.int .i64 (f j)) := by rw [hc]; exact nums_get hj
  simp [hj] at e
  simp [World.cell?, h, e]
theorem row_own {w : World} {b len cap : Nat} {f : Nat → Int} (h : w.ownsRow 0 3 1 (.slice (some ⟨b, 0, none⟩) len cap) len (numsOf f len)) : RowI w (some ⟨b, 0, none⟩) len f := by
  rcases h.2 with ⟨h', _⟩ | ⟨g', cap', cur, h', hb, hg, hnc, _, _, htake⟩
  · simp at h'
  · simp only [Value.slice.injEq, Option.some.injEq, Addr.mk.injEq, and_true, true_and] at h'
    obtain ⟨rfl, rfl⟩ := h'
    exact row_block hg (by rwa [Nat.mul_one] at htake)

end Go.Proofs.YtehmeccjgjhidaaDoor

/-
  Contract of package conf's Copy.
-/
namespace Go.Proofs.YtehmeccjgjhidaaDoor
open Go.RowKit

theorem made_nums (n : Nat) : (madeCells #[Value.int .i64 0] n).toList = numsOf (fun _ => 0) n := by
  apply List.ext_getElem
  · simp [madeCells, numsOf]
  · intro i h1 h2
    simp [madeCells, numsOf, Nat.mod_one]
theorem sizeI : (Tryd.prog.info? 3).map (·.size) = some 1 := by kernel_rfl
theorem row_src {w : World} {ad : Option Addr} {len : Nat} {f : Nat → Int} (hr : RowI w ad len f) (h0 : 0 < (numsOf f len).length) : ∃ a, ad = some a ∧ ∀ j v, (numsOf f len)[j]? = some v → w.cell? (a.add j) = some v := by
  rw [nums_len] at h0
  obtain ⟨b, off, rfl, _, hc⟩ := hr h0
  refine ⟨_, rfl, fun j v hv => ?_⟩
  obtain ⟨hj, rfl⟩ := nums_at hv
  rw [Addr.add_lit]
  exact hc j hj
theorem cfg_set {w : World} {N : Nat} {W S B T : Int} {cl : Value} (h : Cfg5 w N W S B T cl) (cl' : Value) : Cfg5 (w.setCell ⟨N, 4, none⟩ cl') N W S B T cl' := by
  unfold Cfg5; rw [set_of h]; rfl
theorem cfg_set5 {w : World} {N : Nat} {W S B T : Int} {cl : Value} (h : Cfg5 w N W S B T cl) (W' S' B' T' : Int) (cl' : Value) :
    Cfg5 (((((w.setCell ⟨N, 0, none⟩ (.int .i64 W')).setCell ⟨N, 1, none⟩ (.int .i64 S')).setCell ⟨N, 2, none⟩ (.int .i64 B')).setCell ⟨N, 3, none⟩ (.int .i64 T')).setCell ⟨N, 4, none⟩ cl') N W' S' B' T' cl' := by
  unfold Cfg5; rw [set_of (set_of (set_of (set_of (set_of h _) _) _) _) _]; rfl
theorem cfg_frz {w : World} {N : Nat} {W S B T : Int} {cl : Value} (h : Cfg5 w N W S B T cl) (j : Nat) : w.frozen? ⟨N, j, none⟩ = false := frozen_of h
theorem grown_none2 {w w1 : World} (hg : w.grownBy w1 none) : Below w.heap.size w w1 := grown_below hg rfl

/-- What Copy answers. -/
def Copied (w : World) (W S B T : Int) (len : Nat) (f : Nat → Int) (e : Ending) (w' : World) : Prop :=
  ∃ b, e = .returned (.agg #[.int .i64 W, .int .i64 S, .int .i64 B, .int .i64 T, .slice (some ⟨b, 0, none⟩) len len]) ∧ w'.heap[b]? = some (.cells (numsOf f len).toArray 3 (0, 0)) ∧ w.heap.size ≤ b ∧ Below w.heap.size w w'

set_option maxHeartbeats 2000000 in
theorem copy_any (W S B T : Int) (ad : Option Addr) (len cap : Nat) (f : Nat → Int) (w : World) (hr : Hid (RowI w ad len f)) (hl : len ≤ 1000) :
    Calls Tryd.prog 16 #[.agg #[.int .i64 W, .int .i64 S, .int .i64 B, .int .i64 T, .slice ad len cap]] w (Copied w W S B T len f) := by
  obtain ⟨i0, hi, hz0, hz1, hz2⟩ := info_parts infoInt
  have b1 := below_alloc w (.cells #[.int .i64 W, .int .i64 S, .int .i64 B, .int .i64 T, .slice ad len cap] 24)
  have b2 := below_alloc (w.alloc (.cells #[.int .i64 W, .int .i64 S, .int .i64 B, .int .i64 T, .slice ad len cap] 24)) (.cells #[.int .i64 0, .int .i64 0, .int .i64 0, .int .i64 0, .slice none 0 0] 24)
  have C1 := Lib.hid (cfg_next (cfg_new w W S B T (.slice ad len cap)) b2)
  have C2 : Hid (Cfg5 ((w.alloc (.cells #[.int .i64 W, .int .i64 S, .int .i64 B, .int .i64 T, .slice ad len cap] 24)).alloc (.cells #[.int .i64 0, .int .i64 0, .int .i64 0, .int .i64 0, .slice none 0 0] 24)) (w.heap.size + 1) 0 0 0 0 (.slice none 0 0)) := by
    have := cfg_new (w.alloc (.cells #[.int .i64 W, .int .i64 S, .int .i64 B, .int .i64 T, .slice ad len cap] 24)) 0 0 0 0 (.slice none 0 0)
    rw [show (w.alloc (.cells #[.int .i64 W, .int .i64 S, .int .i64 B, .int .i64 T, .slice ad len cap] 24)).heap.size = w.heap.size + 1 from by simp] at this
    exact this
  have B2 := Lib.hid (below_after b1 b2)
  have R2 : Hid (RowI ((w.alloc (.cells #[.int .i64 W, .int .i64 S, .int .i64 B, .int .i64 T, .slice ad len cap] 24)).alloc (.cells #[.int .i64 0, .int .i64 0, .int .i64 0, .int .i64 0, .slice none 0 0] 24)) ad len f) := hr.out.next B2.out
  clear b1 b2
  go_enter Tryd.func16, Tryd.ntmps16
  go_wp2_with (at_make; refine wpList_make_full _ rfl _ _ 22 rfl 0 3 i0 (.int .i64 0) 1 Tryd.underlying22 hi hz0 hz1 .i64 .i64 _ _ len rfl rfl (by omega) (by omega) (by rw [hz2]; omega) (by unfold maxLen; omega) (Nat.zero_le _) ?_)
  intro w3 ho hg
  generalize hw2 : (w.alloc (.cells #[.int .i64 W, .int .i64 S, .int .i64 B, .int .i64 T, .slice ad len cap] 24)).alloc (.cells #[.int .i64 0, .int .i64 0, .int .i64 0, .int .i64 0, .slice none 0 0] 24) = w2 at *
  have hsz : w2.heap.size = w.heap.size + 2 := by rw [← hw2]; simp
  have hb3 : Below w2.heap.size w2 w3 := grown_none2 hg
  have hz : w3.heap[w.heap.size + 1 + 1]? = some (.cells (numsOf (fun _ => 0) len).toArray 3 (0, 0)) := by
    have hm : (madeCells #[Value.int .i64 0] len) = (numsOf (fun _ => 0) len).toArray := by rw [← made_nums len]
    rw [owned_all ho, ← hm]
  have HZ := Lib.hid hz
  have HB3 := Lib.hid hb3
  have R3 : Hid (RowI w3 ad len f) := R2.out.next hb3
  obtain ⟨c0, c1, c2, c3, c4⟩ := cfg_cells (cfg_next C1.out hb3)
  have hX : w2.heap.size ≤ w.heap.size + 1 + 1 := by omega
  have HSZ := Lib.hid hsz
  clear ho hg hz hb3 hw2 hsz
  go_wp2_with (with_reducible refine wpList_copy_splice rfl (.tmp 8) (.tmp 10) 22 22 rfl 3 Tryd.underlying22 sizeI _ _ _ _ _ _ rfl rfl (w.heap.size + 1 + 1) 0 _ 3 HZ.out (numsOf f len) (by rw [nums_len]; simp) (fun h0 => ⟨rfl, row_src R3.out h0⟩) (by rw [nums_len, nums_len]; simp) (nums_one f len) w2.heap.size w2 HB3.out hX ?_)
  intro w4 HG4 hB4
  have hsz := HSZ.out
  have K4 : Hid (w4.heap[w.heap.size + 1 + 1]? = some (.cells (numsOf f len).toArray 3 (0, 0))) := by
    show w4.heap[w.heap.size + 1 + 1]? = _
    rw [HG4.out, splice_all (by rw [nums_len, nums_len])]
  have D1 := cfg_next C1.out hB4
  have D2 := cfg_next C2.out hB4
  have E1 := cfg_set D1 (.slice (some ⟨w.heap.size + 1 + 1, 0, none⟩) len len)
  have D2' : Cfg5 (w4.setCell ⟨w.heap.size, 4, none⟩ (.slice (some ⟨w.heap.size + 1 + 1, 0, none⟩) len len)) (w.heap.size + 1) 0 0 0 0 (.slice none 0 0) := (set_other (by omega) _).trans D2
  have F2 := Lib.hid (cfg_set5 D2' W S B T (.slice (some ⟨w.heap.size + 1 + 1, 0, none⟩) len len))
  have KF : Hid ((((((((w4.setCell ⟨w.heap.size, 4, none⟩ (.slice (some ⟨w.heap.size + 1 + 1, 0, none⟩) len len)).setCell ⟨w.heap.size + 1, 0, none⟩ (.int .i64 W)).setCell ⟨w.heap.size + 1, 1, none⟩ (.int .i64 S)).setCell ⟨w.heap.size + 1, 2, none⟩ (.int .i64 B)).setCell ⟨w.heap.size + 1, 3, none⟩ (.int .i64 T)).setCell ⟨w.heap.size + 1, 4, none⟩ (.slice (some ⟨w.heap.size + 1 + 1, 0, none⟩) len len)).heap[w.heap.size + 1 + 1]?) = some (.cells (numsOf f len).toArray 3 (0, 0))) := by
    show _ = _
    rw [set_other (by omega), set_other (by omega), set_other (by omega), set_other (by omega), set_other (by omega), set_other (by omega)]
    exact K4.out
  have b4 : Below w.heap.size w w4 := B2.out.trans (hB4.mono (by omega))
  have BF := Lib.hid ((((((b4.setCell (p := ⟨w.heap.size, 4, none⟩) (Nat.le_refl _) (.slice (some ⟨w.heap.size + 1 + 1, 0, none⟩) len len)).setCell (p := ⟨w.heap.size + 1, 0, none⟩) (Nat.le_succ _) (.int .i64 W)).setCell (p := ⟨w.heap.size + 1, 1, none⟩) (Nat.le_succ _) (.int .i64 S)).setCell (p := ⟨w.heap.size + 1, 2, none⟩) (Nat.le_succ _) (.int .i64 B)).setCell (p := ⟨w.heap.size + 1, 3, none⟩) (Nat.le_succ _) (.int .i64 T)).setCell (p := ⟨w.heap.size + 1, 4, none⟩) (Nat.le_succ _) (.slice (some ⟨w.heap.size + 1 + 1, 0, none⟩) len len))
  clear c0 c1 c2 c3 c4
  obtain ⟨c0, c1, c2, c3, c4⟩ := cfg_cells D1
  obtain ⟨d0, d1, d2, d3, d4⟩ := cfg_cells D2
  have z1 := cfg_frz D1
  have z2 := cfg_frz D2
  clear HG4 hB4 E1 D2' b4 D1 D2 hsz
  go_wp2_with fail
  obtain ⟨r0, r1, r2, r3, r4⟩ := cfg_cells F2.out
  exact bodyPost_ret (v := .agg #[.int .i64 W, .int .i64 S, .int .i64 B, .int .i64 T, .slice (some ⟨w.heap.size + 1 + 1, 0, none⟩) len len]) (by simp [results, Tryd.results16, go_sem, r0, r1, r2, r3, r4]) rfl ⟨_, rfl, KF.out, by omega, BF.out⟩

end Go.Proofs.YtehmeccjgjhidaaDoor
