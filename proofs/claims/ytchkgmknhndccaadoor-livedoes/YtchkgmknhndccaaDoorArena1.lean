/-
  Contracts of package arena: Most, End, sizeOf, Cap, Class.
-/
import Derived.Test.YtchkgmknhndccaaDoorConf5
namespace Go.Proofs.YtchkgmknhndccaaDoor
open Go.RowKit

theorem ret2_eq {a b c d : Value} (h : a = c) (h2 : b = d) : Ending.returned (.tuple #[a, b]) = .returned (.tuple #[c, d]) := by rw [h, h2]

/-- What is known of the classes of a system that may be. -/
structure ClsOk (len : Nat) (f : Nat → Int) : Prop where
  lo : ∀ i, i < len → 16 ≤ f i
  hi : ∀ i, i < len → f i ≤ 512
  md : ∀ i, i < len → f i % 16 = 0
  up : ∀ i j, i < j → j < len → f i < f j
theorem cls_ok {len : Nat} {f : Nat → Int} (h : clsTo f len = true) : ClsOk len f := by
  have g : ∀ i, i < len → 16 ≤ f i ∧ f i ≤ 512 ∧ f i % 16 = 0 ∧ (i = 0 ∨ f (i - 1) < f i) := fun i hi => by
    have := clsTo_at h hi; simp [clsAt] at this; omega
  refine ⟨fun i hi => (g i hi).1, fun i hi => (g i hi).2.1, fun i hi => (g i hi).2.2.1, fun i j => ?_⟩
  induction j with
  | zero => omega
  | succ j ih =>
    intro h1 h2
    have h3 := (g (j + 1) h2).2.2.2
    simp at h3
    by_cases e : i = j
    · subst e; exact h3
    · have := ih (by omega) (by omega); omega

theorem most_any (W S B T : Int) (cl : Value) (w : World) (h0 : 0 ≤ S) (h1 : S ≤ 1000) :
    Calls Tryd.prog 70 #[.agg #[.int .i64 W, .int .i64 S, .int .i64 B, .int .i64 T, cl]] w fun e w' => e = .returned (.int .i64 (1024 * S)) ∧ Below w.heap.size w w' := by
  have HB := Lib.hid (below_alloc w (.cells #[.int .i64 W, .int .i64 S, .int .i64 B, .int .i64 T, cl] 24))
  go_enter Tryd.func70, Tryd.ntmps70
  go_wp2
  go_ret
  exact ⟨cret_int (by omega), HB.out⟩

theorem end_any (W S B T : Int) (cl : Value) (w : World) (h0 : 0 ≤ S) (h1 : S ≤ 1000) :
    Calls Tryd.prog 63 #[.agg #[.int .i64 W, .int .i64 S, .int .i64 B, .int .i64 T, cl]] w fun e w' => e = .returned (.int .i64 (65536 + 1024 * S)) ∧ Below w.heap.size w w' := by
  have HB := Lib.hid (below_alloc w (.cells #[.int .i64 W, .int .i64 S, .int .i64 B, .int .i64 T, cl] 24))
  go_enter Tryd.func63, Tryd.ntmps63
  go_wp2_with fail
  refine (most_any _ _ _ _ _ _ h0 h1).mono ?_
  rintro e w1 ⟨rfl, hb⟩
  have HB2 := Lib.hid (below_after HB.out hb)
  clear hb
  go_wp2
  go_ret
  exact ⟨rfl, HB2.out⟩

/-- The size of a class; nought, if there is none. -/
def szI (len : Nat) (f : Nat → Int) (k : Int) : Int := if 0 ≤ k ∧ k < len then f k.toNat else 0
theorem szI_in {len : Nat} {f : Nat → Int} {k : Int} (h0 : 0 ≤ k) (h1 : k < len) : szI len f k = f k.toNat := by simp [szI, h0, h1]
theorem szI_out {len : Nat} {f : Nat → Int} {k : Int} (h : k < 0 ∨ (len : Int) ≤ k) : szI len f k = 0 := by unfold szI; rw [if_neg (by omega)]
theorem szI_nat {len : Nat} {f : Nat → Int} {k : Nat} (h1 : k < len) : szI len f (k : Int) = f k := by rw [szI_in (by omega) (by omega)]; simp
theorem szI_bd {len : Nat} {f : Nat → Int} {k : Int} (h : ClsOk len f) : szI len f k = 0 ∨ 16 ≤ szI len f k ∧ szI len f k ≤ 512 ∧ szI len f k % 16 = 0 ∧ 0 ≤ k ∧ k < len := by
  unfold szI
  split
  · rename_i hk
    have hl : k.toNat < len := by omega
    exact .inr ⟨h.lo _ hl, h.hi _ hl, h.md _ hl, hk.1, hk.2⟩
  · exact .inl rfl

def capI (len : Nat) (f : Nat → Int) (k : Int) : Int := if szI len f k < 1 then 0 else 1024 / szI len f k
theorem capI_bd {len : Nat} {f : Nat → Int} {k : Int} (h : ClsOk len f) : 0 ≤ capI len f k ∧ capI len f k ≤ 64 := by
  unfold capI
  rcases szI_bd (k := k) h with h | h
  · rw [h]; simp
  · rw [if_neg (by omega)]
    refine ⟨Int.ediv_nonneg (by omega) (by omega), ?_⟩
    have := Int.ediv_lt_of_lt_mul (a := 1024) (b := 65) (c := szI len f k) (by omega) (by omega)
    omega
/-- The first class that is great enough, or none. -/
theorem class_case (f : Nat → Int) (size : Int) : ∀ n : Nat, (∀ j, j < n → f j < size) ∨ ∃ i, i < n ∧ size ≤ f i ∧ ∀ j, j < i → f j < size
  | 0 => .inl fun j h => by omega
  | n + 1 => by
    rcases class_case f size n with h | ⟨i, h1, h2, h3⟩
    · by_cases e : size ≤ f n
      · exact .inr ⟨n, by omega, e, h⟩
      · refine .inl fun j hj => ?_
        by_cases k : j = n
        · subst k; omega
        · exact h j (by omega)
    · exact .inr ⟨i, by omega, h2, h3⟩

theorem class_small (W S B T : Int) (cl : Value) (size : Int) (w : World) (h : size < 1) :
    Calls Tryd.prog 61 #[.agg #[.int .i64 W, .int .i64 S, .int .i64 B, .int .i64 T, cl], .int .i64 size] w fun e w' => e = .returned (.tuple #[.int .i64 0, .bool false]) ∧ Below w.heap.size w w' := by
  have HB := Lib.hid (below_alloc w (.cells #[.int .i64 W, .int .i64 S, .int .i64 B, .int .i64 T, cl] 24))
  have d1 : decide (size < 1) = true := by simpa using h
  go_enter Tryd.func61, Tryd.ntmps61
  go_wp2
  go_ret2
  exact ⟨rfl, HB.out⟩

set_option maxHeartbeats 1000000 in
theorem class_yes (W S B T : Int) (ad : Option Addr) (len cap : Nat) (f : Nat → Int) (size : Int) (i : Nat) (w : World) (hr : Hid (RowI w ad len f)) (hl : len < 9223372036854775808) (h : 1 ≤ size)
    (hi : i < len) (h2 : size ≤ f i) (h3 : Hid (∀ j, j < i → f j < size)) :
    Calls Tryd.prog 61 #[.agg #[.int .i64 W, .int .i64 S, .int .i64 B, .int .i64 T, .slice ad len cap], .int .i64 size] w fun e w' => e = .returned (.tuple #[.int .i64 i, .bool true]) ∧ Below w.heap.size w w' := by
  have hb := below_alloc w (.cells #[.int .i64 W, .int .i64 S, .int .i64 B, .int .i64 T, .slice ad len cap] 24)
  have HB := Lib.hid hb
  have HR := Lib.hid (hr.out.next hb)
  have d1 : decide (size < 1) = false := by simp; omega
  have hl' : (len : Int) < 9223372036854775808 := by omega
  clear hb
  have H2 := Lib.hid h2
  clear h2
  go_enter Tryd.func61, Tryd.ntmps61
  go_wp2
  generalize w.alloc (.cells #[.int .i64 W, .int .i64 S, .int .i64 B, .int .i64 T, .slice ad len cap] 24) = w1 at *
  go_loop [13] (fun u => ∃ j : Nat, j ≤ i ∧ u = .int .i64 j) (fun u => len - (intOf u).toNat)
  case atStart => exact ⟨0, Nat.zero_le _, rfl⟩
  case round =>
    obtain ⟨j, hj, rfl⟩ := hrel
    have hjl : j < len := by omega
    have l2 : (j : Int) < (len : Int) := by omega
    obtain ⟨b, off, rfl, hc⟩ := HR.out.at hjl
    by_cases e : j = i
    · subst e
      have h4 := H2.out
      generalize f j = z at *
      have d2 : decide (size ≤ z) = true := by simpa using h4
      go_wp2
      go_ret2
      exact ⟨rfl, HB.out⟩
    · have h4 := h3.out j (by omega)
      generalize f j = z at *
      have d2 : decide (size ≤ z) = false := by simp; omega
      go_wp2
      go_round
      case rel => exact ⟨j + 1, by omega, by go_num⟩
      case measure => simp [intOf]; omega

set_option maxHeartbeats 1000000 in
theorem class_no (W S B T : Int) (ad : Option Addr) (len cap : Nat) (f : Nat → Int) (size : Int) (w : World) (hr : Hid (RowI w ad len f)) (hl : len < 9223372036854775808) (h : 1 ≤ size)
    (h3 : Hid (∀ j, j < len → f j < size)) :
    Calls Tryd.prog 61 #[.agg #[.int .i64 W, .int .i64 S, .int .i64 B, .int .i64 T, .slice ad len cap], .int .i64 size] w fun e w' => e = .returned (.tuple #[.int .i64 0, .bool false]) ∧ Below w.heap.size w w' := by
  have hb := below_alloc w (.cells #[.int .i64 W, .int .i64 S, .int .i64 B, .int .i64 T, .slice ad len cap] 24)
  have HB := Lib.hid hb
  have HR := Lib.hid (hr.out.next hb)
  have d1 : decide (size < 1) = false := by simp; omega
  have hl' : (len : Int) < 9223372036854775808 := by omega
  clear hb
  go_enter Tryd.func61, Tryd.ntmps61
  go_wp2
  generalize w.alloc (.cells #[.int .i64 W, .int .i64 S, .int .i64 B, .int .i64 T, .slice ad len cap] 24) = w1 at *
  go_loop [13] (fun u => ∃ j : Nat, j ≤ len ∧ u = .int .i64 j) (fun u => len - (intOf u).toNat)
  case atStart => exact ⟨0, Nat.zero_le _, rfl⟩
  case round =>
    obtain ⟨j, hj, rfl⟩ := hrel
    by_cases e : j < len
    · have l2 : (j : Int) < (len : Int) := by omega
      obtain ⟨b, off, rfl, hc⟩ := HR.out.at e
      have h4 := h3.out j e
      generalize f j = z at *
      have d2 : decide (size ≤ z) = false := by simp; omega
      go_wp2
      go_round
      case rel => exact ⟨j + 1, by omega, by go_num⟩
      case measure => simp [intOf]; omega
    · obtain rfl : j = len := by omega
      go_wp2
      go_ret2
      exact ⟨rfl, HB.out⟩

end Go.Proofs.YtchkgmknhndccaaDoor
