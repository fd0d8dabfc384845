/-
  The walk of the statement WordApart: what is put into a field is there; another field, apart from it, has what it had.
-/
import Derived.Test.YtjddbbkmaifcpaaDoorWWordSigns
namespace Go.Proofs.YtjddbbkmaifcpaaDoor
open Go.RowKit

theorem get_put {m n a b : Nat} (hm : m < 18446744073709551616) (hn : n < 2 ^ b) (hab : a + b ≤ 64) : Ma.getN (Ma.putN m n a b) a b = n := by
  apply Nat.eq_of_testBit_eq
  intro i
  rw [Ma.testBit_getN, Ma.testBit_putN hm hn hab]
  by_cases hi : i < b
  · simp [hi, show a + i - a = i by omega]
  · simp [hi, Ma.bit_of_lt hn (show b ≤ i by omega)]
theorem get_apart {m n a b c d : Nat} (hm : m < 18446744073709551616) (hn : n < 2 ^ b) (hab : a + b ≤ 64) (h : a + b ≤ c ∨ c + d ≤ a) : Ma.getN (Ma.putN m n a b) c d = Ma.getN m c d := by
  apply Nat.eq_of_testBit_eq
  intro i
  rw [Ma.testBit_getN, Ma.testBit_getN, Ma.testBit_putN hm hn hab]
  by_cases hi : i < d
  · rw [if_neg (by omega)]
  · simp [hi]
theorem sign_apart {m n a b c d : Nat} (hm : m < 18446744073709551616) (hn : n < 2 ^ b) (hab : a + b ≤ 64) (h : a + b ≤ c ∨ c + d ≤ a) : Ma.signN (Ma.putN m n a b) c d = Ma.signN m c d := by
  unfold Ma.signN; rw [get_apart hm hn hab h]

theorem duo_keep {w w1 w2 : World} {p q : Nat} {a b c d : Int} (h : w1.cell? ⟨p, 0, none⟩ = some (.int .i64 a) ∧ w1.cell? ⟨p, 1, none⟩ = some (.int .i64 b) ∧ w1.cell? ⟨q, 0, none⟩ = some (.int .i64 c) ∧ w1.cell? ⟨q, 1, none⟩ = some (.int .i64 d) ∧ p < w1.heap.size ∧ q < w1.heap.size ∧ w.heap.size ≤ w1.heap.size ∧ Below w.heap.size w w1) (hb : Below w1.heap.size w1 w2) :
    w2.cell? ⟨p, 0, none⟩ = some (.int .i64 a) ∧ w2.cell? ⟨p, 1, none⟩ = some (.int .i64 b) ∧ w2.cell? ⟨q, 0, none⟩ = some (.int .i64 c) ∧ w2.cell? ⟨q, 1, none⟩ = some (.int .i64 d) ∧ p < w2.heap.size ∧ q < w2.heap.size ∧ w.heap.size ≤ w2.heap.size ∧ Below w.heap.size w w2 := by
  obtain ⟨h0, h1, h2, h3, h4, h5, h6, h7⟩ := h
  exact ⟨(hb.cell (p := ⟨p, 0, none⟩) h4).trans h0, (hb.cell (p := ⟨p, 1, none⟩) h4).trans h1, (hb.cell (p := ⟨q, 0, none⟩) h5).trans h2, (hb.cell (p := ⟨q, 1, none⟩) h5).trans h3, Nat.lt_of_lt_of_le h4 hb.size, Nat.lt_of_lt_of_le h5 hb.size, Nat.le_trans h6 hb.size, h7.trans (hb.mono h6)⟩
theorem duo_all {w w1 : World} {p q : Nat} {a b c d : Int} (h : w1.cell? ⟨p, 0, none⟩ = some (.int .i64 a) ∧ w1.cell? ⟨p, 1, none⟩ = some (.int .i64 b) ∧ w1.cell? ⟨q, 0, none⟩ = some (.int .i64 c) ∧ w1.cell? ⟨q, 1, none⟩ = some (.int .i64 d) ∧ p < w1.heap.size ∧ q < w1.heap.size ∧ w.heap.size ≤ w1.heap.size ∧ Below w.heap.size w w1) : w1.cell? ⟨p, 0, none⟩ = some (.int .i64 a) ∧ w1.cell? ⟨p, 1, none⟩ = some (.int .i64 b) ∧ w1.cell? ⟨q, 0, none⟩ = some (.int .i64 c) ∧ w1.cell? ⟨q, 1, none⟩ = some (.int .i64 d) ∧ p < w1.heap.size ∧ q < w1.heap.size ∧ w.heap.size ≤ w1.heap.size ∧ Below w.heap.size w w1 := h
theorem duo_drew {w w1 : World} {p q : Nat} {a b c d : Int} (h : w1.cell? ⟨p, 0, none⟩ = some (.int .i64 a) ∧ w1.cell? ⟨p, 1, none⟩ = some (.int .i64 b) ∧ w1.cell? ⟨q, 0, none⟩ = some (.int .i64 c) ∧ w1.cell? ⟨q, 1, none⟩ = some (.int .i64 d) ∧ p < w1.heap.size ∧ q < w1.heap.size ∧ w.heap.size ≤ w1.heap.size ∧ Below w.heap.size w w1) : w1.drew.cell? ⟨p, 0, none⟩ = some (.int .i64 a) ∧ w1.drew.cell? ⟨p, 1, none⟩ = some (.int .i64 b) ∧ w1.drew.cell? ⟨q, 0, none⟩ = some (.int .i64 c) ∧ w1.drew.cell? ⟨q, 1, none⟩ = some (.int .i64 d) ∧ p < w1.drew.heap.size ∧ q < w1.drew.heap.size ∧ w.heap.size ≤ w1.drew.heap.size ∧ Below w.heap.size w w1.drew :=
  ⟨h.1, h.2.1, h.2.2.1, h.2.2.2.1, h.2.2.2.2.1, h.2.2.2.2.2.1, h.2.2.2.2.2.2.1, h.2.2.2.2.2.2.2.drew⟩
theorem duo_new {w w1 : World} {a b c d : Int} (T : TypeId) (h : Below w.heap.size w w1) (p q : Nat) (hp : w1.heap.size = p) (hq : w1.heap.size + 1 = q) :
    ((w1.alloc (.cells #[.int .i64 a, .int .i64 b] T)).alloc (.cells #[.int .i64 c, .int .i64 d] T)).drew.cell? ⟨p, 0, none⟩ = some (.int .i64 a) ∧ ((w1.alloc (.cells #[.int .i64 a, .int .i64 b] T)).alloc (.cells #[.int .i64 c, .int .i64 d] T)).drew.cell? ⟨p, 1, none⟩ = some (.int .i64 b) ∧ ((w1.alloc (.cells #[.int .i64 a, .int .i64 b] T)).alloc (.cells #[.int .i64 c, .int .i64 d] T)).drew.cell? ⟨q, 0, none⟩ = some (.int .i64 c) ∧ ((w1.alloc (.cells #[.int .i64 a, .int .i64 b] T)).alloc (.cells #[.int .i64 c, .int .i64 d] T)).drew.cell? ⟨q, 1, none⟩ = some (.int .i64 d) ∧ p < ((w1.alloc (.cells #[.int .i64 a, .int .i64 b] T)).alloc (.cells #[.int .i64 c, .int .i64 d] T)).drew.heap.size ∧ q < ((w1.alloc (.cells #[.int .i64 a, .int .i64 b] T)).alloc (.cells #[.int .i64 c, .int .i64 d] T)).drew.heap.size ∧ w.heap.size ≤ ((w1.alloc (.cells #[.int .i64 a, .int .i64 b] T)).alloc (.cells #[.int .i64 c, .int .i64 d] T)).drew.heap.size ∧ Below w.heap.size w ((w1.alloc (.cells #[.int .i64 a, .int .i64 b] T)).alloc (.cells #[.int .i64 c, .int .i64 d] T)).drew := by
  subst hp hq
  refine ⟨by simp, by simp, by simp, by simp, by simp <;> omega, by simp <;> omega, ?_, ?_⟩
  · have := h.size; simp; omega
  · exact (below_next h (below_next (belowBox w1 _) (belowBox _ _))).drew
theorem duo_new2 {w w1 : World} {a b c d : Int} (T : TypeId) (h : Below w.heap.size w w1) (p q : Nat) (hq : w1.heap.size = q) (hp : w1.heap.size + 1 = p) :
    ((w1.alloc (.cells #[.int .i64 c, .int .i64 d] T)).alloc (.cells #[.int .i64 a, .int .i64 b] T)).drew.cell? ⟨p, 0, none⟩ = some (.int .i64 a) ∧ ((w1.alloc (.cells #[.int .i64 c, .int .i64 d] T)).alloc (.cells #[.int .i64 a, .int .i64 b] T)).drew.cell? ⟨p, 1, none⟩ = some (.int .i64 b) ∧ ((w1.alloc (.cells #[.int .i64 c, .int .i64 d] T)).alloc (.cells #[.int .i64 a, .int .i64 b] T)).drew.cell? ⟨q, 0, none⟩ = some (.int .i64 c) ∧ ((w1.alloc (.cells #[.int .i64 c, .int .i64 d] T)).alloc (.cells #[.int .i64 a, .int .i64 b] T)).drew.cell? ⟨q, 1, none⟩ = some (.int .i64 d) ∧ p < ((w1.alloc (.cells #[.int .i64 c, .int .i64 d] T)).alloc (.cells #[.int .i64 a, .int .i64 b] T)).drew.heap.size ∧ q < ((w1.alloc (.cells #[.int .i64 c, .int .i64 d] T)).alloc (.cells #[.int .i64 a, .int .i64 b] T)).drew.heap.size ∧ w.heap.size ≤ ((w1.alloc (.cells #[.int .i64 c, .int .i64 d] T)).alloc (.cells #[.int .i64 a, .int .i64 b] T)).drew.heap.size ∧ Below w.heap.size w ((w1.alloc (.cells #[.int .i64 c, .int .i64 d] T)).alloc (.cells #[.int .i64 a, .int .i64 b] T)).drew := by
  subst hp hq
  refine ⟨by simp, by simp, by simp, by simp, by simp <;> omega, by simp <;> omega, ?_, ?_⟩
  · have := h.size; simp; omega
  · exact (below_next h (below_next (belowBox w1 _) (belowBox _ _))).drew

theorem get_is (m a b v : Nat) (w : World) (hm : m < 18446744073709551616) (h : okF a b) (hv : Ma.getN m a b = v) :
    Calls Tryd.prog 19 #[.agg #[.int .i64 a, .int .i64 b], .int .u64 m] w fun e w' => e = .returned (.int .u64 (v : Int)) ∧ Below w.heap.size w w' := by
  subst hv; exact get_yes m a b w hm h
theorem sign_is (m a b : Nat) (v : Int) (w : World) (h : okF a b) (hv : Ma.signN m a b = v) :
    Calls Tryd.prog 20 #[.agg #[.int .i64 a, .int .i64 b], .int .u64 m] w fun e w' => e = .returned (.int .i64 v) ∧ Below w.heap.size w w' := by
  subst hv; exact signed_yes m a b w h

end Go.Proofs.YtjddbbkmaifcpaaDoor
