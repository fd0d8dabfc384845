/-
  Contracts of package conf's Check, by its parts: within, classesMayBe.
-/
import Derived.Test.YtkogeeaoppkhkaaDoorConf1
namespace Go.Proofs.YtkogeeaoppkhkaaDoor
open Go.RowKit

/-- A row of numbers, by the function that gives them. -/
def RowI (w : World) (a : Option Addr) (len : Nat) (f : Nat → Int) : Prop :=
  0 < len → ∃ b off, a = some ⟨b, off, none⟩ ∧ b < w.heap.size ∧ ∀ j, j < len → w.cell? ⟨b, off + j, none⟩ = some (.int .i64 (f j))
theorem RowI.next {w w' : World} {a : Option Addr} {len : Nat} {f : Nat → Int} (h : RowI w a len f) (hb : Below w.heap.size w w') : RowI w' a len f := fun h0 => by
  obtain ⟨b, off, e, hl, hc⟩ := h h0
  exact ⟨b, off, e, Nat.lt_of_lt_of_le hl hb.size, fun j hj => (hb.cell (p := ⟨b, off + j, none⟩) hl).trans (hc j hj)⟩
theorem RowI.at {w : World} {a : Option Addr} {len j : Nat} {f : Nat → Int} (h : RowI w a len f) (hj : j < len) : ∃ b off, a = some ⟨b, off, none⟩ ∧ w.cell? ⟨b, off + j, none⟩ = some (.int .i64 (f j)) := by
  obtain ⟨b, off, e, _, hc⟩ := h (by omega)
  exact ⟨b, off, e, hc j hj⟩

/-- May the class at a place be? -/
def clsAt (f : Nat → Int) (i : Nat) : Bool := decide (16 ≤ f i) && decide (f i ≤ 512) && decide (f i % 16 = 0) && (decide (i = 0) || decide (f (i - 1) < f i))
def clsTo (f : Nat → Int) : Nat → Bool
  | 0 => true
  | i + 1 => clsTo f i && clsAt f i
theorem clsTo_at {f : Nat → Int} : ∀ {n i : Nat}, clsTo f n = true → i < n → clsAt f i = true
  | n + 1, i, h, hi => by
    simp only [clsTo, Bool.and_eq_true] at h
    by_cases e : i = n
    · subst e; exact h.2
    · exact clsTo_at h.1 (by omega)
theorem clsTo_of {f : Nat → Int} : ∀ {n : Nat}, (∀ i, i < n → clsAt f i = true) → clsTo f n = true
  | 0, _ => rfl
  | n + 1, h => by simp only [clsTo, Bool.and_eq_true]; exact ⟨clsTo_of fun i hi => h i (by omega), h n (by omega)⟩
theorem clsTo_not {f : Nat → Int} {n i : Nat} (hi : i < n) (h : clsAt f i = false) : clsTo f n = false := by
  rcases hc : clsTo f n with _ | _
  · rfl
  · have := clsTo_at hc hi; rw [h] at this; cases this
/-- What stands ahead of a place: 0 ahead of the first. -/
def ahead (f : Nat → Int) : Nat → Int
  | 0 => 0
  | i + 1 => f i
theorem cls_iff (f : Nat → Int) (i : Nat) : clsAt f i = (decide (ahead f i < f i) && decide (f i % 16 = 0) && (decide (16 ≤ f i) && decide (f i ≤ 512))) := by
  rw [Bool.eq_iff_iff]
  cases i with
  | zero =>
    simp only [clsAt, Bool.and_eq_true, Bool.or_eq_true, decide_eq_true_eq]
    simp only [ahead]
    constructor
    · rintro ⟨⟨⟨h1, h2⟩, h3⟩, h4⟩; exact ⟨⟨by omega, h3⟩, h1, h2⟩
    · rintro ⟨⟨h1, h2⟩, h3, h4⟩; exact ⟨⟨⟨h3, h4⟩, h2⟩, by simp⟩
  | succ i =>
    simp only [clsAt, Bool.and_eq_true, Bool.or_eq_true, decide_eq_true_eq]
    simp only [ahead, Nat.add_sub_cancel]
    constructor
    · rintro ⟨⟨⟨h1, h2⟩, h3⟩, h4⟩; exact ⟨⟨by omega, h3⟩, h1, h2⟩
    · rintro ⟨⟨h1, h2⟩, h3, h4⟩; exact ⟨⟨⟨h3, h4⟩, h2⟩, .inr h1⟩
theorem ahead_nonneg {f : Nat → Int} {i : Nat} (h : clsTo f i = true) : 0 ≤ ahead f i := by
  cases i with
  | zero => exact Int.le_refl _
  | succ i => have := clsTo_at h (Nat.lt_succ_self i); simp [clsAt] at this; simp [ahead]; omega

def clsAll (len : Nat) (f : Nat → Int) : Bool := (decide (1 ≤ (len : Int)) && decide ((len : Int) ≤ 16)) && clsTo f len

end Go.Proofs.YtkogeeaoppkhkaaDoor
