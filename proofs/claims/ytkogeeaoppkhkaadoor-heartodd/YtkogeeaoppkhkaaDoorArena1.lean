/-
  Contracts of package arena: Most, End, sizeOf, Cap, Class.
-/
import Derived.Test.YtkogeeaoppkhkaaDoorConf5
namespace Go.Proofs.YtkogeeaoppkhkaaDoor
open Go.RowKit

theorem ret2_eq {a b c d : Value} (h : a = c) (h2 : b = d) : Ending.returned (.tuple #[a, b]) = .returned (.tuple #[c, d]) := by rw [h, h2]

/-- What is known of the classes of a system that may be. -/
structure ClsOk (len : Nat) (f : Nat → Int) : Prop where
  lo : ∀ i, i < len → 16 ≤ f i
  hi : ∀ i, i < len → f i ≤ 512
  md : ∀ i, i < len → f i % 16 = 0
  up : ∀ i j, i < j → j < len → f i < f j
theorem cls_ok {len : Nat} {f : Nat → Int} (h : clsTo f len = true) : ClsOk len f := by
  have g : ∀ i, i < len → 16 ≤ f i ∧ f i ≤ 512 ∧ f i % 16 = 0 ∧ (i = 0 ∨ f (i - 1) < f i) := fun i hi => by
    have := clsTo_at h hi; simp [clsAt] at this; omega
  refine ⟨fun i hi => (g i hi).1, fun i hi => (g i hi).2.1, fun i hi => (g i hi).2.2.1, fun i j => ?_⟩
  induction j with
  | zero => omega
  | succ j ih =>
    intro h1 h2
    have h3 := (g (j + 1) h2).2.2.2
    simp at h3
    by_cases e : i = j
    · subst e; exact h3
    · have := ih (by omega) (by omega); omega

/-- The size of a class; nought, if there is none. -/
def szI (len : Nat) (f : Nat → Int) (k : Int) : Int := if 0 ≤ k ∧ k < len then f k.toNat else 0
theorem szI_in {len : Nat} {f : Nat → Int} {k : Int} (h0 : 0 ≤ k) (h1 : k < len) : szI len f k = f k.toNat := by simp [szI, h0, h1]
theorem szI_out {len : Nat} {f : Nat → Int} {k : Int} (h : k < 0 ∨ (len : Int) ≤ k) : szI len f k = 0 := by unfold szI; rw [if_neg (by omega)]
theorem szI_nat {len : Nat} {f : Nat → Int} {k : Nat} (h1 : k < len) : szI len f (k : Int) = f k := by rw [szI_in (by omega) (by omega)]; simp
theorem szI_bd {len : Nat} {f : Nat → Int} {k : Int} (h : ClsOk len f) : szI len f k = 0 ∨ 16 ≤ szI len f k ∧ szI len f k ≤ 512 ∧ szI len f k % 16 = 0 ∧ 0 ≤ k ∧ k < len := by
  unfold szI
  split
  · rename_i hk
    have hl : k.toNat < len := by omega
    exact .inr ⟨h.lo _ hl, h.hi _ hl, h.md _ hl, hk.1, hk.2⟩
  · exact .inl rfl

theorem sizeOf_any (W S B T : Int) (ad : Option Addr) (len cap : Nat) (f : Nat → Int) (k : Int) (w : World) (hr : Hid (RowI w ad len f)) :
    Calls Tryd.prog 87 #[.agg #[.int .i64 W, .int .i64 S, .int .i64 B, .int .i64 T, .slice ad len cap], .int .i64 k] w fun e w' => e = .returned (.int .i64 (szI len f k)) ∧ Below w.heap.size w w' := by
  have hb := below_alloc w (.cells #[.int .i64 W, .int .i64 S, .int .i64 B, .int .i64 T, .slice ad len cap] 24)
  have HB := Lib.hid hb
  have HR := Lib.hid (hr.out.next hb)
  clear hb
  by_cases h0 : k < 0
  · have d0 : decide (k < 0) = true := by simpa using h0
    have HZ := Lib.hid (szI_out (len := len) (f := f) (.inl h0))
    go_enter Tryd.func87, Tryd.ntmps87
    go_wp2
    go_ret
    exact ⟨by rw [HZ.out]; first | done | rfl, HB.out⟩
  · have d0 : decide (k < 0) = false := by simpa using h0
    by_cases h1 : (len : Int) ≤ k
    · have d1 : decide ((len : Int) ≤ k) = true := by simpa using h1
      have HZ := Lib.hid (szI_out (len := len) (f := f) (.inr h1))
      go_enter Tryd.func87, Tryd.ntmps87
      go_wp2
      go_ret
      exact ⟨by rw [HZ.out]; first | done | rfl, HB.out⟩
    · have d1 : decide ((len : Int) ≤ k) = false := by simpa using h1
      obtain ⟨n, rfl⟩ := Int.eq_ofNat_of_zero_le (show 0 ≤ k by omega)
      have hn : n < len := by omega
      have l2 : (n : Int) < (len : Int) := by omega
      have HZ := Lib.hid (szI_nat (f := f) hn)
      obtain ⟨b, off, rfl, hc⟩ := HR.out.at hn
      go_enter Tryd.func87, Tryd.ntmps87
      go_wp2
      go_ret
      exact ⟨by rw [HZ.out]; first | done | rfl, HB.out⟩

def capI (len : Nat) (f : Nat → Int) (k : Int) : Int := if szI len f k < 1 then 0 else 1024 / szI len f k
theorem capI_bd {len : Nat} {f : Nat → Int} {k : Int} (h : ClsOk len f) : 0 ≤ capI len f k ∧ capI len f k ≤ 64 := by
  unfold capI
  rcases szI_bd (k := k) h with h | h
  · rw [h]; simp
  · rw [if_neg (by omega)]
    refine ⟨Int.ediv_nonneg (by omega) (by omega), ?_⟩
    have := Int.ediv_lt_of_lt_mul (a := 1024) (b := 65) (c := szI len f k) (by omega) (by omega)
    omega
theorem cap_any (W S B T : Int) (ad : Option Addr) (len cap : Nat) (f : Nat → Int) (k : Int) (w : World) (hr : Hid (RowI w ad len f)) (ok : Hid (ClsOk len f)) :
    Calls Tryd.prog 77 #[.agg #[.int .i64 W, .int .i64 S, .int .i64 B, .int .i64 T, .slice ad len cap], .int .i64 k] w fun e w' => e = .returned (.int .i64 (capI len f k)) ∧ Below w.heap.size w w' := by
  have hb := below_alloc w (.cells #[.int .i64 W, .int .i64 S, .int .i64 B, .int .i64 T, .slice ad len cap] 24)
  have HB := Lib.hid hb
  have HR := Lib.hid (hr.out.next hb)
  have HC : Hid (capI len f k = if szI len f k < 1 then 0 else 1024 / szI len f k) := rfl
  have hz := szI_bd (k := k) ok.out
  clear hb
  go_enter Tryd.func77, Tryd.ntmps77
  go_wp2_with fail
  refine (sizeOf_any W S B T ad len cap f k _ HR).mono ?_
  rintro e w1 ⟨rfl, hb⟩
  have HB2 := Lib.hid (below_after HB.out hb)
  clear hb
  generalize szI len f k = z at *
  by_cases h1 : z < 1
  · have d1 : decide (z < 1) = true := by simpa using h1
    have HE : Hid (capI len f k = 0) := by show capI len f k = 0; rw [HC.out, if_pos h1]
    clear HC hz
    go_wp2
    go_ret
    exact ⟨by rw [HE.out]; first | done | rfl, HB2.out⟩
  · have d1 : decide (z < 1) = false := by simpa using h1
    have HE : Hid (capI len f k = 1024 / z) := by show capI len f k = _; rw [HC.out, if_neg h1]
    have z0 : 0 < z := by omega
    have z1 : z ≤ 512 := by omega
    clear HC hz
    go_wp2
    go_ret
    exact ⟨by rw [HE.out]; first | done | rfl, HB2.out⟩

/-- The first class that is great enough, or none. -/
theorem class_case (f : Nat → Int) (size : Int) : ∀ n : Nat, (∀ j, j < n → f j < size) ∨ ∃ i, i < n ∧ size ≤ f i ∧ ∀ j, j < i → f j < size
  | 0 => .inl fun j h => by omega
  | n + 1 => by
    rcases class_case f size n with h | ⟨i, h1, h2, h3⟩
    · by_cases e : size ≤ f n
      · exact .inr ⟨n, by omega, e, h⟩
      · refine .inl fun j hj => ?_
        by_cases k : j = n
        · subst k; omega
        · exact h j (by omega)
    · exact .inr ⟨i, by omega, h2, h3⟩

end Go.Proofs.YtkogeeaoppkhkaaDoor
