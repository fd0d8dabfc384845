/-
  Contracts of package conf's Check, by its parts: within, classesMayBe.
-/
import Derived.Test.YtchkgmknhndccaaDoorConf1
namespace Go.Proofs.YtchkgmknhndccaaDoor
open Go.RowKit

theorem within_any (x a b : Int) (w : World) :
    Calls Tryd.prog 48 #[.int .i64 x, .int .i64 a, .int .i64 b] w fun e w' => e = .returned (.bool (decide (a ≤ x) && decide (x ≤ b))) ∧ w = w' := by
  by_cases h0 : a ≤ x
  · have e0 : decide (a ≤ x) = true := by simpa using h0
    go_enter Tryd.func48, Tryd.ntmps48
    go_wp2
    go_ret
    exact ⟨by rw [e0]; rfl, rfl⟩
  · have e0 : decide (a ≤ x) = false := by simpa using h0
    go_enter Tryd.func48, Tryd.ntmps48
    go_wp2
    go_ret
    exact ⟨rfl, rfl⟩
theorem within_is (x a b : Int) (v : Bool) (w : World) (hv : (decide (a ≤ x) && decide (x ≤ b)) = v) :
    Calls Tryd.prog 48 #[.int .i64 x, .int .i64 a, .int .i64 b] w fun e w' => e = .returned (.bool v) ∧ w = w' := by
  subst hv; exact within_any x a b w

/-- A row of numbers, by the function that gives them. -/
def RowI (w : World) (a : Option Addr) (len : Nat) (f : Nat → Int) : Prop :=
  0 < len → ∃ b off, a = some ⟨b, off, none⟩ ∧ b < w.heap.size ∧ ∀ j, j < len → w.cell? ⟨b, off + j, none⟩ = some (.int .i64 (f j))
theorem RowI.next {w w' : World} {a : Option Addr} {len : Nat} {f : Nat → Int} (h : RowI w a len f) (hb : Below w.heap.size w w') : RowI w' a len f := fun h0 => by
  obtain ⟨b, off, e, hl, hc⟩ := h h0
  exact ⟨b, off, e, Nat.lt_of_lt_of_le hl hb.size, fun j hj => (hb.cell (p := ⟨b, off + j, none⟩) hl).trans (hc j hj)⟩
theorem RowI.at {w : World} {a : Option Addr} {len j : Nat} {f : Nat → Int} (h : RowI w a len f) (hj : j < len) : ∃ b off, a = some ⟨b, off, none⟩ ∧ w.cell? ⟨b, off + j, none⟩ = some (.int .i64 (f j)) := by
  obtain ⟨b, off, e, _, hc⟩ := h (by omega)
  exact ⟨b, off, e, hc j hj⟩

/-- May the class at a place be? -/
def clsAt (f : Nat → Int) (i : Nat) : Bool := decide (16 ≤ f i) && decide (f i ≤ 512) && decide (f i % 16 = 0) && (decide (i = 0) || decide (f (i - 1) < f i))
def clsTo (f : Nat → Int) : Nat → Bool
  | 0 => true
  | i + 1 => clsTo f i && clsAt f i
theorem clsTo_at {f : Nat → Int} : ∀ {n i : Nat}, clsTo f n = true → i < n → clsAt f i = true
  | n + 1, i, h, hi => by
    simp only [clsTo, Bool.and_eq_true] at h
    by_cases e : i = n
    · subst e; exact h.2
    · exact clsTo_at h.1 (by omega)
theorem clsTo_of {f : Nat → Int} : ∀ {n : Nat}, (∀ i, i < n → clsAt f i = true) → clsTo f n = true
  | 0, _ => rfl
  | n + 1, h => by simp only [clsTo, Bool.and_eq_true]; exact ⟨clsTo_of fun i hi => h i (by omega), h n (by omega)⟩
theorem clsTo_not {f : Nat → Int} {n i : Nat} (hi : i < n) (h : clsAt f i = false) : clsTo f n = false := by
  rcases hc : clsTo f n with _ | _
  · rfl
  · have := clsTo_at hc hi; rw [h] at this; cases this
/-- What stands ahead of a place: 0 ahead of the first. -/
def ahead (f : Nat → Int) : Nat → Int
  | 0 => 0
  | i + 1 => f i
theorem cls_iff (f : Nat → Int) (i : Nat) : clsAt f i = (decide (ahead f i < f i) && decide (f i % 16 = 0) && (decide (16 ≤ f i) && decide (f i ≤ 512))) := by
  rw [Bool.eq_iff_iff]
  cases i with
  | zero =>
    simp only [clsAt, Bool.and_eq_true, Bool.or_eq_true, decide_eq_true_eq]
    simp only [ahead]
    constructor
    · rintro ⟨⟨⟨h1, h2⟩, h3⟩, h4⟩; exact ⟨⟨by omega, h3⟩, h1, h2⟩
    · rintro ⟨⟨h1, h2⟩, h3, h4⟩; exact ⟨⟨⟨h3, h4⟩, h2⟩, by simp⟩
  | succ i =>
    simp only [clsAt, Bool.and_eq_true, Bool.or_eq_true, decide_eq_true_eq]
    simp only [ahead, Nat.add_sub_cancel]
    constructor
    · rintro ⟨⟨⟨h1, h2⟩, h3⟩, h4⟩; exact ⟨⟨by omega, h3⟩, h1, h2⟩
    · rintro ⟨⟨h1, h2⟩, h3, h4⟩; exact ⟨⟨⟨h3, h4⟩, h2⟩, .inr h1⟩
theorem ahead_nonneg {f : Nat → Int} {i : Nat} (h : clsTo f i = true) : 0 ≤ ahead f i := by
  cases i with
  | zero => exact Int.le_refl _
  | succ i => have := clsTo_at h (Nat.lt_succ_self i); simp [clsAt] at this; simp [ahead]; omega

def clsAll (len : Nat) (f : Nat → Int) : Bool := (decide (1 ≤ (len : Int)) && decide ((len : Int) ≤ 16)) && clsTo f len

set_option maxHeartbeats 1000000 in
theorem classes_any (ad : Option Addr) (len cap : Nat) (f : Nat → Int) (w : World) (hr : Hid (RowI w ad len f)) (hl : len < 9223372036854775808) :
    Calls Tryd.prog 49 #[.slice ad len cap] w fun e w' => e = .returned (.bool (clsAll len f)) ∧ w = w' := by
  unfold clsAll
  have hl' : (len : Int) < 9223372036854775808 := by omega
  rcases hb : (decide (1 ≤ (len : Int)) && decide ((len : Int) ≤ 16)) with _ | _
  · have HB := Lib.hid hb
    clear hb
    go_enter Tryd.func49, Tryd.ntmps49
    go_wp2_with fail
    refine (within_is _ _ _ _ _ HB.out).mono ?_
    rintro e w' ⟨rfl, rfl⟩
    go_wp2
    go_ret
    exact ⟨rfl, rfl⟩
  · have HB := Lib.hid hb
    have l16 : (len : Int) ≤ 16 := by simp at hb; omega
    clear hb
    go_enter Tryd.func49, Tryd.ntmps49
    go_wp2_with fail
    refine (within_is _ _ _ _ _ HB.out).mono ?_
    rintro e w' ⟨rfl, rfl⟩
    go_wp2_with fail
    go_loop [3, 12] (fun v u => ∃ i : Nat, i ≤ len ∧ clsTo f i = true ∧ v = .int .i64 (ahead f i) ∧ u = .int .i64 i) (fun _ u => len - (intOf u).toNat)
    case atStart => exact ⟨0, Nat.zero_le _, rfl, rfl, rfl⟩
    case round =>
      obtain ⟨i, hi, hc, rfl, rfl⟩ := hrel
      have HC := Lib.hid hc
      by_cases hlt : i < len
      · obtain ⟨b, off, rfl, hcell⟩ := hr.out.at hlt
        have l2 : (i : Int) < (len : Int) := by omega
        have HI := Lib.hid (cls_iff f i)
        have HA := ahead_nonneg hc
        have HN : Hid (ahead f (i + 1) = f i) := rfl
        have HS : Hid (clsTo f (i + 1) = (clsTo f i && clsAt f i)) := rfl
        have HX := Lib.hid (fun h => clsTo_not (f := f) hlt h)
        clear hc
        generalize clsAt f i = ok at *
        generalize ahead f i = below at *
        generalize f i = z at *
        by_cases h1 : z ≤ below
        · have d1 : decide (z ≤ below) = true := by simpa using h1
          have hok : ok = false := by rw [HI.out]; simp; omega
          clear HI
          go_wp2_with fail
          go_ret
          exact ⟨by rw [HX.out hok]; rfl, rfl⟩
        · have d1 : decide (z ≤ below) = false := by simpa using h1
          have hz : 0 < z := by omega
          by_cases h2 : z % 16 = 0
          · have d2 : (z % 16 != 0) = false := by simp [h2]
            have H2 := Lib.hid h2
            clear h1 h2
            rcases h3 : (decide (16 ≤ z) && decide (z ≤ 512)) with _ | _
            · have H3 := Lib.hid h3
              have hok : ok = false := by rw [HI.out, h3]; simp
              clear HI h3
              go_wp2_with fail
              refine (within_is _ _ _ _ _ H3.out).mono ?_
              rintro e w' ⟨rfl, rfl⟩
              go_wp2_with fail
              go_ret
              exact ⟨by rw [HX.out hok]; rfl, rfl⟩
            · have H3 := Lib.hid h3
              have hok : Hid (ok = true) := by show ok = true; rw [HI.out, h3]; have := H2.out; simp [this]; simp at d1; omega
              clear HI h3
              go_wp2_with fail
              refine (within_is _ _ _ _ _ H3.out).mono ?_
              rintro e w' ⟨rfl, rfl⟩
              go_wp2_with fail
              go_round
              case rel => exact ⟨i + 1, by omega, by rw [HS.out, HC.out, hok.out]; rfl, by rw [HN.out], by go_num⟩
              case measure => simp [intOf]; omega
          · have d2 : (z % 16 != 0) = true := by simp [h2]
            have hok : ok = false := by rw [HI.out]; simp [h2]
            clear HI h1 h2
            go_wp2_with fail
            go_ret
            exact ⟨by rw [HX.out hok]; rfl, rfl⟩
      · obtain rfl : i = len := by omega
        go_wp2_with fail
        go_ret
        exact ⟨rfl, rfl⟩

end Go.Proofs.YtchkgmknhndccaaDoor
