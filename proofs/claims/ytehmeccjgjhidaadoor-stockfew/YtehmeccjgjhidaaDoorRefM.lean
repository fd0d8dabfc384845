/-
  The walk of the statement MaskChanges: with a number, or without it, a set is the document's; and back.
-/
import Derived.Test.YtehmeccjgjhidaaDoorMaskM
import Derived.Deep.RegionWith
namespace Go.Proofs.YtehmeccjgjhidaaDoor
open Go.RowKit

theorem with_nat (m k : Nat) (w : World) (hm : m < 18446744073709551616) (h1 : k < 64) :
    Calls Tryd.prog 22 #[.int .u64 m, .int .i64 k] w fun e w' => e = .returned (.int .u64 (Ma.withN m k : Nat)) ∧ w = w' := with_yes m k w hm (by omega) (by omega)
theorem without_nat (m k : Nat) (w : World) (hm : m < 18446744073709551616) (h1 : k < 64) :
    Calls Tryd.prog 24 #[.int .u64 m, .int .i64 k] w fun e w' => e = .returned (.int .u64 (Ma.withoutN m k : Nat)) ∧ w = w' := without_yes m k w hm (by omega) (by omega)

theorem back_without (m k : Nat) (hm : m < 18446744073709551616) (h : k < 64) : Ma.withoutN (Ma.withN m k) k = Ma.withoutN m k := by
  refine Ma.word_ext (Ma.withoutN_lt _ (Ma.withN_lt hm h)) (Ma.withoutN_lt _ hm) fun i _ => ?_
  rw [Ma.testBit_withoutN (Ma.withN_lt hm h) h, Ma.testBit_withN, Ma.testBit_withoutN hm h]
  cases m.testBit i <;> cases decide (k = i) <;> rfl
theorem back_with (m k : Nat) (hm : m < 18446744073709551616) (h : k < 64) : Ma.withN (Ma.withoutN m k) k = Ma.withN m k := by
  refine Ma.word_ext (Ma.withN_lt (Ma.withoutN_lt _ hm) h) (Ma.withN_lt hm h) fun i _ => ?_
  rw [Ma.testBit_withN, Ma.testBit_withoutN hm h, Ma.testBit_withN]
  cases m.testBit i <;> cases decide (k = i) <;> rfl

end Go.Proofs.YtehmeccjgjhidaaDoor

/-
  The walk of the statement MaskRuns: the first of so many in a row; no row that begins ahead of it is in the set.
-/
namespace Go.Proofs.YtehmeccjgjhidaaDoor
open Go.RowKit

theorem isRow_zero (m a : Nat) : Ma.isRow m a 0 = true := rfl
theorem isRow_step (m a j : Nat) : Ma.isRow m a (j + 1) = (Ma.isRow m a j && m.testBit (a + j)) := by
  simp [Ma.isRow, List.range_succ, List.all_append]
theorem isRow_bit {m a n j : Nat} (h : Ma.isRow m a n = true) (hj : j < n) : m.testBit (a + j) = true := (Ma.isRow_iff m a n).1 h j hj
theorem isRow_false_mono {m a j n : Nat} (h : Ma.isRow m a j = false) (hj : j ≤ n) : Ma.isRow m a n = false := by
  rcases hb : Ma.isRow m a n with _ | _
  · rfl
  · have := (Ma.isRow_iff m a n).1 hb
    have h2 : Ma.isRow m a j = true := (Ma.isRow_iff m a j).2 fun i hi => this i (by omega)
    rw [h] at h2; cases h2

/-- The two loops that look for a row ahead of 'q': shared by both ways. -/
def NoneAhead (m n q : Nat) : Prop := ∀ k, k < q → Ma.isRow m k n = false

/-- The first row of so many, if there is one. -/
theorem run_cases (m n : Nat) : (∃ a, a + n ≤ 64 ∧ Ma.isRow m a n = true ∧ ∀ k, k < a → Ma.isRow m k n = false) ∨ ∀ k, k + n ≤ 64 → Ma.isRow m k n = false := by
  have key : ∀ q, (∃ a, a < q ∧ Ma.isRow m a n = true ∧ ∀ k, k < a → Ma.isRow m k n = false) ∨ ∀ k, k < q → Ma.isRow m k n = false := by
    intro q
    induction q with
    | zero => exact Or.inr fun k hk => by omega
    | succ q ih =>
      rcases ih with ⟨a, h1, h2, h3⟩ | h
      · exact Or.inl ⟨a, by omega, h2, h3⟩
      · rcases hb : Ma.isRow m q n with _ | _
        · exact Or.inr fun k hk => by
            by_cases e : k = q
            · rw [e]; exact hb
            · exact h k (by omega)
        · exact Or.inl ⟨q, by omega, hb, h⟩
  rcases key (65 - n) with ⟨a, h1, h2, h3⟩ | h
  · exact Or.inl ⟨a, by omega, h2, h3⟩
  · exact Or.inr fun k hk => h k (by omega)

end Go.Proofs.YtehmeccjgjhidaaDoor

/-
  Contracts of the document's own answers of layers 1 and 2: Bit, Power, Has.
-/
namespace Go.Proofs.YtehmeccjgjhidaaDoor
open Go.RowKit

theorem shr_step (x k : Nat) : (x >>> k) / 2 = x >>> (k + 1) := (Nat.shiftRight_succ x k).symm
theorem bit_last (x k : Nat) : (((x >>> k : Nat) : Int) % 2 == 1) = x.testBit k := by
  have h : x.testBit k = (x >>> k).testBit 0 := by rw [Nat.testBit_shiftRight]; rfl
  rw [h, Nat.testBit_zero]
  generalize x >>> k = y
  rw [Bool.eq_iff_iff]
  simp only [beq_iff_eq, decide_eq_true_eq]
  omega

theorem pow_step (k : Nat) (h : k < 63) : IntKind.u64.wrap (((2 ^ k : Nat) : Int) * 2) = ((2 ^ (k + 1) : Nat) : Int) := by
  have := Ma.pow_lt (show k + 1 < 64 by omega)
  rw [Nat.pow_succ] at this ⊢
  rw [IntKind.wrap_u64]
  generalize 2 ^ k = q at *
  omega

end Go.Proofs.YtehmeccjgjhidaaDoor

/-
  Contracts of the document's own answers of layer 2: List, Of, Least, Low, Run.
-/
namespace Go.Proofs.YtehmeccjgjhidaaDoor
open Go.RowKit

/-- The members below k. -/
def memTo (m k : Nat) : List Nat := (List.range k).filter fun i => m.testBit i
theorem memTo_step (m k : Nat) : memTo m (k + 1) = memTo m k ++ if m.testBit k then [k] else [] := by
  unfold memTo
  rw [List.range_succ, List.filter_append]
  congr 1
  simp [List.filter_cons]
theorem memTo_le (m k : Nat) : (memTo m k).length ≤ k := by
  have := List.length_filter_le (fun i => m.testBit i) (List.range k)
  simpa [memTo] using this

theorem rlist_step {B k : Nat} {m : Nat} {w wr w1 : World} {v v' : Value} (o : Obj) (hb : m.testBit k = true)
    (hB : B ≤ wr.heap.size) (hown : wr.ownsRow B 3 1 v (memTo m k).length (ints (memTo m k))) (hnx : Below B w wr)
    (hown' : w1.ownsRow B 3 1 v' ((memTo m k).length + 1) (ints (memTo m k) ++ [.int .i64 (k : Nat)])) (hg : (wr.alloc o).grownBy w1 v.ownBlock) :
    w1.ownsRow B 3 1 v' (memTo m (k + 1)).length (ints (memTo m (k + 1))) ∧ Below B w w1 := by
  refine ⟨?_, (hnx.alloc hB o).grown hg (by simp; omega) (fun j hj => (World.ownsRow.lt hown j hj).1)⟩
  rw [memTo_step, hb]
  simpa [ints] using hown'

/-! ### Of -/
def addTo (m : Nat) (z : Int) : Nat := if 0 ≤ z ∧ z ≤ 63 then Ma.withN m z.toNat else m
def ofTo (f : Nat → Int) : Nat → Nat
  | 0 => 0
  | k + 1 => addTo (ofTo f k) (f k)
theorem addTo_lt {m : Nat} (z : Int) (hm : m < 18446744073709551616) : addTo m z < 18446744073709551616 := by
  unfold addTo; split
  · exact Ma.withN_lt hm (by omega)
  · exact hm
theorem ofTo_lt (f : Nat → Int) : ∀ k, ofTo f k < 18446744073709551616
  | 0 => by simp [ofTo]
  | k + 1 => addTo_lt _ (ofTo_lt f k)
theorem withN_same {m k : Nat} (hb : m.testBit k = true) : Ma.withN m k = m := by
  apply Nat.eq_of_testBit_eq
  intro i
  rw [Ma.testBit_withN]
  by_cases h : k = i
  · subst h; simp [hb]
  · simp [h]
theorem withN_add {m k : Nat} (hb : m.testBit k = false) : Ma.withN m k = m + 2 ^ k := by
  unfold Ma.withN
  rw [Nat.add_comm, Nat.or_comm]
  apply Nat.eq_of_testBit_eq
  intro i
  rw [Nat.testBit_or, Ma.testBit_pow]
  rcases Nat.lt_trichotomy i k with h | h | h
  · rw [Nat.testBit_two_pow_add_gt h]
    simp [show ¬ k = i by omega]
  · subst h
    rw [Nat.testBit_two_pow_add_eq, hb]
    simp
  · have e1 : m = 2 ^ (k + 1) * (m / 2 ^ (k + 1)) + m % 2 ^ (k + 1) := (Nat.div_add_mod m (2 ^ (k + 1))).symm
    have hlt : m % 2 ^ (k + 1) < 2 ^ k := by
      have h2 : m % 2 ^ (k + 1) < 2 ^ (k + 1) := Nat.mod_lt _ (Nat.two_pow_pos _)
      apply Nat.lt_of_not_le
      intro hle
      have hb2 : (m % 2 ^ (k + 1)).testBit k = true := by
        apply Nat.testBit_of_two_pow_le_and_two_pow_add_one_gt hle h2
      rw [Nat.testBit_mod_two_pow] at hb2
      simp [hb] at hb2
    have hs : 2 ^ k + m % 2 ^ (k + 1) < 2 ^ (k + 1) := by
      have hp : 2 ^ (k + 1) = 2 ^ k * 2 := Nat.pow_succ 2 k
      generalize m % 2 ^ (k + 1) = r at *
      omega
    have e2 : 2 ^ k + m = 2 ^ (k + 1) * (m / 2 ^ (k + 1)) + (2 ^ k + m % 2 ^ (k + 1)) := by
      conv => lhs; rw [e1]
      omega
    conv => lhs; rw [e1]
    rw [e2, Nat.testBit_two_pow_mul_add _ (Nat.mod_lt _ (Nat.two_pow_pos _)), Nat.testBit_two_pow_mul_add _ hs]
    simp [show ¬ i < k + 1 by omega, show ¬ k = i by omega]

theorem add_key (m k : Nat) (hm : m < 18446744073709551616) (hk : k < 64) (hb : m.testBit k = false) : IntKind.u64.wrap ((m : Int) + ((2 ^ k : Nat) : Int)) = ((Ma.withN m k : Nat) : Int) := by
  have h := Ma.withN_lt hm hk
  rw [withN_add hb] at h ⊢
  exact Ma.wrap_add _ _ h

end Go.Proofs.YtehmeccjgjhidaaDoor

/-
  Contracts of the document's own answers of layer 2: Least, Low, Run.
-/
namespace Go.Proofs.YtehmeccjgjhidaaDoor
open Go.RowKit

theorem ofList_snoc (l : List Nat) (a : Nat) : Ma.ofList (l ++ [a]) = Ma.withN (Ma.ofList l) a := by
  apply Nat.eq_of_testBit_eq
  intro i
  rw [Ma.testBit_withN, Ma.testBit_ofList, Ma.testBit_ofList, Bool.eq_iff_iff]
  simp only [List.mem_append, List.mem_singleton, Bool.or_eq_true, decide_eq_true_eq]
  constructor
  · rintro (h | h)
    · exact Or.inl h
    · exact Or.inr h.symm
  · rintro (h | h)
    · exact Or.inl h
    · exact Or.inr h.symm

theorem ofTo_take (l : List Nat) (hl : ∀ a ∈ l, a < 64) : ∀ k, k ≤ l.length → ofTo (fun j => ((l.getD j 0 : Nat) : Int)) k = Ma.ofList (l.take k)
  | 0, _ => rfl
  | k + 1, h => by
    have hk : k < l.length := by omega
    have e : l.take (k + 1) = l.take k ++ [l[k]] := by
      rw [List.take_add_one, List.getElem?_eq_getElem hk]; rfl
    have ha := hl l[k] (List.getElem_mem hk)
    rw [e, ofList_snoc, ← ofTo_take l hl k (by omega)]
    show addTo _ ((l.getD k 0 : Nat) : Int) = _
    rw [List.getD_eq_getElem?_getD, List.getElem?_eq_getElem hk, Option.getD_some]
    unfold addTo
    rw [if_pos (by omega), Int.toNat_natCast]

/-- The cells of a list that was answered. -/
theorem listed_cell {l : List Nat} {B : Nat} {w' : World} {g cap : Nat} (h : w'.ownsRow B 3 1 (.slice (some ⟨g, 0, none⟩) l.length cap) l.length (ints l)) (j : Nat) (hj : j < l.length) :
    w'.cell? ⟨g, 0 + j, none⟩ = some (.int .i64 ((fun j => ((l.getD j 0 : Nat) : Int)) j)) := by
  rw [Nat.zero_add, World.ownsRow.cellAt h j (by omega)]
  simp [ints, List.getD_eq_getElem?_getD, List.getElem?_eq_getElem hj]

/-- A list that was answered is nil and empty, or lies at the head of a block of its own. -/
theorem listed_cases {l : List Nat} {B : Nat} {w' : World} {v : Value} (h : w'.ownsRow B 3 1 v l.length (ints l)) :
    (v = .slice none 0 0 ∧ l = []) ∨ ∃ g cap, v = .slice (some ⟨g, 0, none⟩) l.length cap ∧ l.length ≤ cap ∧ cap ≤ maxLen ∧ B ≤ g := by
  rcases h.2 with ⟨h1, h2⟩ | ⟨g, cap, cur, h1, h2, _, h3, h4, _⟩
  · exact Or.inl ⟨h1, List.length_eq_zero_iff.1 h2⟩
  · exact Or.inr ⟨g, cap, h1, h3, h4, h2⟩

theorem mem_len (m : Nat) : (Ma.mem m).length ≤ 64 := by rw [Ma.mem_length]; exact Ma.popF_le 64 m

theorem least_at (m k : Nat) (hk : k ≤ (Ma.mem m).length) : ofTo (fun j => (((Ma.mem m).getD j 0 : Nat) : Int)) k = Ma.leastN m k := ofTo_take _ (fun _ h => Ma.mem_lt h) k hk

/-! ### Run -/
/-- How many set bits stand in a row just ahead of k. -/
def rowTo (m : Nat) : Nat → Nat
  | 0 => 0
  | k + 1 => if m.testBit k then rowTo m k + 1 else 0
theorem rowTo_le (m : Nat) : ∀ k, rowTo m k ≤ k
  | 0 => Nat.le_refl _
  | k + 1 => by
    have := rowTo_le m k
    simp only [rowTo]; split <;> omega
theorem rowTo_bits (m : Nat) : ∀ k j, k - rowTo m k ≤ j → j < k → m.testBit j = true
  | 0, j, _, h => by omega
  | k + 1, j, h1, h2 => by
    have hle := rowTo_le m k
    simp only [rowTo] at h1
    split at h1
    · rename_i hb
      by_cases e : j = k
      · rw [e]; exact hb
      · exact rowTo_bits m k j (by omega) (by omega)
    · omega
theorem rowTo_stop (m : Nat) : ∀ k, rowTo m k < k → m.testBit (k - rowTo m k - 1) = false
  | 0, h => by omega
  | k + 1, h => by
    have hle := rowTo_le m k
    simp only [rowTo] at h ⊢
    split
    · rename_i hb
      rw [if_pos hb] at h
      rw [show k + 1 - (rowTo m k + 1) - 1 = k - rowTo m k - 1 from by omega]
      exact rowTo_stop m k (by omega)
    · rename_i hb
      rw [show k + 1 - 0 - 1 = k from by omega]
      simpa using hb
/-- No row of n has ended by k, as long as each count stayed below n. -/
theorem rowTo_none (m n k a : Nat) (h : ∀ j, j ≤ k → rowTo m j < n) (ha : a + n ≤ k) : Ma.isRow m a n = false := by
  rcases hb : Ma.isRow m a n with _ | _
  · rfl
  · exfalso
    have hbits := (Ma.isRow_iff m a n).1 hb
    have key : ∀ q, q ≤ n → q ≤ rowTo m (a + q) := by
      intro q
      induction q with
      | zero => intro _; exact Nat.zero_le _
      | succ q ih =>
        intro hq
        have := ih (by omega)
        rw [← Nat.add_assoc]
        simp only [rowTo, hbits q (by omega), if_true]
        omega
    have h1 := key n (Nat.le_refl _)
    have h2 := h (a + n) ha
    omega
theorem rowTo_first (m n k : Nat) (h : ∀ j, j ≤ k → rowTo m j < n) (hk : n ≤ rowTo m (k + 1)) :
    n ≤ k + 1 ∧ Ma.isRow m (k + 1 - n) n = true ∧ ∀ a, a < k + 1 - n → Ma.isRow m a n = false := by
  have hle := rowTo_le m (k + 1)
  refine ⟨by omega, (Ma.isRow_iff _ _ _).2 fun j hj => rowTo_bits m (k + 1) _ (by omega) (by omega), fun a ha => ?_⟩
  exact rowTo_none m n k a h (by omega)

theorem rowTo_zero (m n : Nat) (hn : 1 ≤ n) (j : Nat) (hj : j ≤ 0) : rowTo m j < n := by
  obtain rfl : j = 0 := by omega
  exact hn

/-- What Run answers of n from 1 on: the first row's place, or -1. -/
def RunIs (m n : Nat) (z : Int) : Prop :=
  (∃ a : Nat, z = a ∧ a + n ≤ 64 ∧ Ma.isRow m a n = true ∧ ∀ k, k < a → Ma.isRow m k n = false) ∨ (z = -1 ∧ ∀ k, k + n ≤ 64 → Ma.isRow m k n = false)
def RunSays (m n : Nat) (w : World) (e : Ending) (w' : World) : Prop := ∃ z, e = .returned (.int .i64 z) ∧ RunIs m n z ∧ w = w'

end Go.Proofs.YtehmeccjgjhidaaDoor
