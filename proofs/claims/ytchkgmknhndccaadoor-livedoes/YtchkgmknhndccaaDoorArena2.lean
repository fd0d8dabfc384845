/-
  Contracts of package arena: Run, Place, All, Address.
-/
import Derived.Test.YtchkgmknhndccaaDoorArena1
import Derived.Test.YtchkgmknhndccaaDoorMask2
import Derived.Deep.QuietTactic
namespace Go.Proofs.YtchkgmknhndccaaDoor
open Go.RowKit

theorem run_small (W S B T : Int) (ad : Option Addr) (len cap : Nat) (size : Int) (w : World) (h : size < 1) :
    Calls Tryd.prog 62 #[.agg #[.int .i64 W, .int .i64 S, .int .i64 B, .int .i64 T, .slice ad len cap], .int .i64 size] w fun e w' => e = .returned (.int .i64 0) ∧ Below w.heap.size w w' := by
  have HB := Lib.hid (below_alloc w (.cells #[.int .i64 W, .int .i64 S, .int .i64 B, .int .i64 T, .slice ad len cap] 24))
  have d1 : decide (size < 1) = true := by simpa using h
  go_enter Tryd.func62, Tryd.ntmps62
  go_wp2_with fail
  refine (class_small W S B T _ size _ h).mono ?_
  rintro e w1 ⟨rfl, hb⟩
  have HB2 := Lib.hid (below_after HB.out hb)
  clear hb
  go_wp2_with fail
  go_ret
  exact ⟨rfl, HB2.out⟩
theorem run_has (W S B T : Int) (ad : Option Addr) (len cap : Nat) (f : Nat → Int) (size : Int) (i : Nat) (w : World) (hr : Hid (RowI w ad len f)) (hl : len < 9223372036854775808) (h : 1 ≤ size)
    (hi : i < len) (h2 : size ≤ f i) (h3 : Hid (∀ j, j < i → f j < size)) :
    Calls Tryd.prog 62 #[.agg #[.int .i64 W, .int .i64 S, .int .i64 B, .int .i64 T, .slice ad len cap], .int .i64 size] w fun e w' => e = .returned (.int .i64 0) ∧ Below w.heap.size w w' := by
  have hb := below_alloc w (.cells #[.int .i64 W, .int .i64 S, .int .i64 B, .int .i64 T, .slice ad len cap] 24)
  have HB := Lib.hid hb
  have HR := Lib.hid (hr.out.next hb)
  clear hb
  go_enter Tryd.func62, Tryd.ntmps62
  go_wp2_with fail
  refine (class_yes W S B T ad len cap f size i _ HR hl h hi h2 h3).mono ?_
  rintro e w1 ⟨rfl, hb⟩
  have HB2 := Lib.hid (below_after HB.out hb)
  clear hb
  go_wp2_with fail
  go_ret
  exact ⟨rfl, HB2.out⟩
def runI (S size : Int) : Int := if 1024 * S < size then 0 else (size - 1) / 1024 + 1
theorem run_no (W S B T : Int) (ad : Option Addr) (len cap : Nat) (f : Nat → Int) (size : Int) (w : World) (hr : Hid (RowI w ad len f)) (hl : len < 9223372036854775808) (h : 1 ≤ size)
    (h3 : Hid (∀ j, j < len → f j < size)) (s0 : 0 ≤ S) (s1 : S ≤ 1000) :
    Calls Tryd.prog 62 #[.agg #[.int .i64 W, .int .i64 S, .int .i64 B, .int .i64 T, .slice ad len cap], .int .i64 size] w fun e w' => e = .returned (.int .i64 (runI S size)) ∧ Below w.heap.size w w' := by
  have hb := below_alloc w (.cells #[.int .i64 W, .int .i64 S, .int .i64 B, .int .i64 T, .slice ad len cap] 24)
  have HB := Lib.hid hb
  have HR := Lib.hid (hr.out.next hb)
  have C0 := Lib.hid (cfg_new w W S B T (.slice ad len cap))
  have d1 : decide (size < 1) = false := by simp; omega
  have HQ : Hid (runI S size = if 1024 * S < size then 0 else (size - 1) / 1024 + 1) := rfl
  clear hb
  go_enter Tryd.func62, Tryd.ntmps62
  go_wp2_with fail
  generalize w.alloc (.cells #[.int .i64 W, .int .i64 S, .int .i64 B, .int .i64 T, .slice ad len cap] 24) = w0 at *
  refine (class_no W S B T ad len cap f size _ HR hl h h3).mono ?_
  rintro e w1 ⟨rfl, hb⟩
  have HB2 := Lib.hid (below_after HB.out hb)
  have C1 := Lib.hid (cfg_next C0.out hb)
  clear hb HR C0
  obtain ⟨c0, c1, c2, c3, c4⟩ := cfg_cells C1.out
  go_wp2_with fail
  refine (most_any _ _ _ _ _ _ s0 s1).mono ?_
  rintro e w2 ⟨rfl, hb⟩
  have HB3 := Lib.hid (below_after HB2.out hb)
  clear hb HB2
  by_cases h4 : 1024 * S < size
  · have d4 : decide (1024 * S < size) = true := by simpa using h4
    go_wp2_with fail
    go_ret
    exact ⟨by rw [HQ.out, if_pos h4]; first | done | rfl, HB3.out⟩
  · have d4 : decide (1024 * S < size) = false := by simpa using h4
    have z2 : size ≤ 1024000 := by omega
    go_wp2_with fail
    go_ret
    exact ⟨by rw [HQ.out, if_neg (by omega)]; first | done | rfl, HB3.out⟩

theorem place_no (W S B T : Int) (cl : Value) (at_ : Int) (w : World) (s0 : 0 ≤ S) (s1 : S ≤ 1000) (h : at_ < 65536 ∨ 65536 + 1024 * S ≤ at_ ∨ at_ % 16 ≠ 0) :
    Calls Tryd.prog 50 #[.agg #[.int .i64 W, .int .i64 S, .int .i64 B, .int .i64 T, cl], .int .i64 at_] w fun e w' => e = .returned (.tuple #[.int .i64 0, .int .i64 0, .bool false]) ∧ Below w.heap.size w w' := by
  have HB := Lib.hid (below_alloc w (.cells #[.int .i64 W, .int .i64 S, .int .i64 B, .int .i64 T, cl] 24))
  by_cases h0 : at_ < 65536
  · have d0 : decide (at_ < 65536) = true := by simpa using h0
    go_enter Tryd.func50, Tryd.ntmps50
    go_wp2_with fail
    go_ret3
    exact ⟨rfl, HB.out⟩
  · have d0 : decide (at_ < 65536) = false := by simpa using h0
    have HH := Lib.hid h
    clear h
    go_enter Tryd.func50, Tryd.ntmps50
    go_wp2_with fail
    refine (end_any _ _ _ _ _ _ s0 s1).mono ?_
    rintro e w1 ⟨rfl, hb⟩
    have HB2 := Lib.hid (below_after HB.out hb)
    clear hb
    by_cases h1 : 65536 + 1024 * S ≤ at_
    · have d1 : decide (65536 + 1024 * S ≤ at_) = true := by simpa using h1
      go_wp2_with fail
      go_ret3
      exact ⟨rfl, HB2.out⟩
    · have d1 : decide (65536 + 1024 * S ≤ at_) = false := by simpa using h1
      have a0 : 65536 ≤ at_ := by omega
      have a1 : at_ ≤ 2000000 := by omega
      have h2 : (at_ - 65536) % 16 ≠ 0 := by have := HH.out; omega
      have d2 : ((at_ - 65536) % 16 != 0) = true := by simpa using h2
      clear HH
      go_wp2_with fail
      go_ret3
      exact ⟨rfl, HB2.out⟩
theorem place_yes (W S B T : Int) (cl : Value) (at_ : Int) (w : World) (s0 : 0 ≤ S) (s1 : S ≤ 1000) (h0 : 65536 ≤ at_) (h1 : at_ < 65536 + 1024 * S) (h2 : at_ % 16 = 0) :
    Calls Tryd.prog 50 #[.agg #[.int .i64 W, .int .i64 S, .int .i64 B, .int .i64 T, cl], .int .i64 at_] w fun e w' => e = .returned (.tuple #[.int .i64 ((at_ - 65536) / 16 / 64), .int .i64 ((at_ - 65536) / 16 % 64), .bool true]) ∧ Below w.heap.size w w' := by
  have HB := Lib.hid (below_alloc w (.cells #[.int .i64 W, .int .i64 S, .int .i64 B, .int .i64 T, cl] 24))
  have d0 : decide (at_ < 65536) = false := by simp; omega
  have d1 : decide (65536 + 1024 * S ≤ at_) = false := by simp; omega
  have d2 : ((at_ - 65536) % 16 != 0) = false := by simp; omega
  have a1 : at_ ≤ 2000000 := by omega
  clear h2
  go_enter Tryd.func50, Tryd.ntmps50
  go_wp2_with fail
  refine (end_any _ _ _ _ _ _ s0 s1).mono ?_
  rintro e w1 ⟨rfl, hb⟩
  have HB2 := Lib.hid (below_after HB.out hb)
  clear hb
  go_wp2_with fail
  go_ret3
  exact ⟨rfl, HB2.out⟩

/-- Where a block begins. -/
def adrI (S : Int) (len : Nat) (f : Nat → Int) (k s i : Int) : Int := if s < 0 ∨ S ≤ s ∨ i < 0 ∨ capI len f k ≤ i then 0 else 65536 + 1024 * s + i * szI len f k

/-- Two numbers in a block. -/
def Two5 (w : World) (N : Nat) (t : TypeId) (a b : Int) : Prop := w.heap[N]? = some (.cells #[.int .i64 a, .int .i64 b] t (0, 0))
theorem Two5.lt {w : World} {N : Nat} {t : TypeId} {a b : Int} (h : Two5 w N t a b) : N < w.heap.size := (Array.getElem?_eq_some_iff.1 h).1
theorem Two5.next {w w' : World} {N : Nat} {t : TypeId} {a b : Int} (h : Two5 w N t a b) (hb : Below w.heap.size w w') : Two5 w' N t a b := (hb.block N h.lt).trans h
theorem Two5.new (w : World) (t : TypeId) (a b : Int) : Two5 (w.alloc (.cells #[.int .i64 a, .int .i64 b] t)) w.heap.size t a b := by
  show (w.heap.push _)[w.heap.size]? = _
  rw [Array.getElem?_push, if_pos rfl]
theorem Two5.cells {w : World} {N : Nat} {t : TypeId} {a b : Int} (h : Two5 w N t a b) : w.cell? ⟨N, 0, none⟩ = some (.int .i64 a) ∧ w.cell? ⟨N, 1, none⟩ = some (.int .i64 b) := by
  unfold Two5 at h
  refine ⟨?_, ?_⟩ <;> simp [World.cell?, h]

theorem below_d {N : Nat} {w w1 : World} (h : Below N w w1) (n : Nat) : Below N w (w1.drewN n) := ⟨h.os, h.tape, h.output, h.size, h.block⟩

end Go.Proofs.YtchkgmknhndccaaDoor
