/-
  Plain arithmetic, of no program: rows of bits, the least bits of a set, and a set's members as a list.
-/
import Derived.Test.YtkogeeaoppkhkaaDoorMath2
namespace Go.Proofs.YtkogeeaoppkhkaaDoor.Ma
open Go

/-- The n bits of m from 'at' on are all set. -/
def isRow (m a n : Nat) : Bool := (List.range n).all fun j => m.testBit (a + j)
theorem isRow_iff (m a n : Nat) : isRow m a n = true ↔ ∀ j, j < n → m.testBit (a + j) = true := by
  simp [isRow, List.all_eq_true]

theorem row_eq (m a n : Nat) : ((m >>> a) &&& lowN n = lowN n) ↔ isRow m a n = true := by
  rw [isRow_iff]
  constructor
  · intro h j hj
    have := congrArg (fun x => x.testBit j) h
    simp only [Nat.testBit_and, testBit_lowN, Nat.testBit_shiftRight, hj, decide_true, Bool.and_true] at this
    exact this
  · intro h
    apply Nat.eq_of_testBit_eq
    intro j
    rw [Nat.testBit_and, testBit_lowN, Nat.testBit_shiftRight]
    by_cases hj : j < n
    · simp [hj, h j hj]
    · simp [hj]

theorem row_key (m a n : Nat) (hm : m < 18446744073709551616) (hn : n ≤ 64) : (bits BinOp.and IntKind.u64 ((m : Int) / 2 ^ a) ((lowN n : Nat) : Int) == ((lowN n : Nat) : Int)) = isRow m a n := by
  rw [shr_cast, u64_and_nat _ _ (shr_lt a hm) (lowN_lt hn), Bool.eq_iff_iff, ← row_eq]
  simp only [beq_iff_eq]
  omega

/-! ### The lowest bit -/
theorem ctz_spec (m : Nat) (hm : m < 18446744073709551616) (h0 : m ≠ 0) : Lib.ctz 64 m < 64 ∧ m.testBit (Lib.ctz 64 m) = true ∧ ∀ j, j < Lib.ctz 64 m → m.testBit j = false := by
  obtain ⟨q, hq, hk⟩ := Lib.ctzFrom_spec 64 m (by omega) hm
  have e : Lib.ctz 64 m = Lib.ctzFrom 64 m := by simp [Lib.ctz, h0]
  rw [e]
  generalize Lib.ctzFrom 64 m = k at *
  refine ⟨hk, ?_, ?_⟩
  · rw [hq, Nat.mul_comm, Nat.testBit_mul_two_pow]
    simp
  · intro j hj
    rw [hq, Nat.mul_comm, Nat.testBit_mul_two_pow]
    simp; omega
theorem ctz_zero : Lib.ctz 64 0 = 64 := rfl

/-- A set that is not empty has its first number, and less without it. -/
theorem without_first_lt (m : Nat) (hm : m < 18446744073709551616) (h0 : m ≠ 0) : withoutN m (Lib.ctz 64 m) < m := by
  obtain ⟨h1, h2, _⟩ := ctz_spec m hm h0
  have hle : withoutN m (Lib.ctz 64 m) ≤ m := Nat.and_le_left
  rcases Nat.lt_or_eq_of_le hle with h | h
  · exact h
  · exfalso
    have := testBit_withoutN hm h1 (Lib.ctz 64 m)
    rw [h, h2] at this
    simp at this

/-! ### Members -/
def mem (m : Nat) : List Nat := (List.range 64).filter fun i => m.testBit i

theorem mem_mem (m i : Nat) : i ∈ mem m ↔ i < 64 ∧ m.testBit i = true := by simp [mem]
theorem mem_lt {m i : Nat} (h : i ∈ mem m) : i < 64 := ((mem_mem m i).1 h).1
theorem mem_sorted (m : Nat) : (mem m).Pairwise (· < ·) := by
  unfold mem
  exact List.Pairwise.filter _ List.pairwise_lt_range

theorem popF_filter : ∀ f m, ((List.range f).filter fun i => m.testBit i).length = popF f m
  | 0, m => rfl
  | f + 1, m => by
    rw [List.range_succ_eq_map, List.filter_cons]
    have ih := popF_filter f (m / 2)
    have e : ((List.map Nat.succ (List.range f)).filter fun i => m.testBit i).length = ((List.range f).filter fun i => (m / 2).testBit i).length := by
      rw [List.filter_map, List.length_map]
      congr 1
      apply List.filter_congr
      intro i _
      simp [Nat.testBit_succ]
    simp only [popF]
    have hb : m.testBit 0 = decide (m % 2 = 1) := Nat.testBit_zero m
    rcases Nat.mod_two_eq_zero_or_one m with h | h
    · rw [hb, h]
      simp only [show ¬ ((0 : Nat) = 1) from by decide, decide_false, Bool.false_eq_true, if_false]
      omega
    · rw [hb, h]
      simp only [decide_true, if_true, List.length_cons]
      omega

theorem mem_length (m : Nat) : (mem m).length = popF 64 m := popF_filter 64 m

/-- The list of a set's members begins with its first one; the others are those of the set without it. -/
theorem mem_cons (m : Nat) (hm : m < 18446744073709551616) (h0 : m ≠ 0) : mem m = Lib.ctz 64 m :: mem (withoutN m (Lib.ctz 64 m)) := by
  obtain ⟨h1, h2, h3⟩ := ctz_spec m hm h0
  have hs1 : (mem m).Pairwise (· < ·) := mem_sorted m
  have hs2 : (Lib.ctz 64 m :: mem (withoutN m (Lib.ctz 64 m))).Pairwise (· < ·) := by
    refine List.pairwise_cons.2 ⟨?_, mem_sorted _⟩
    intro a ha
    rw [mem_mem, testBit_withoutN hm h1] at ha
    simp only [Bool.and_eq_true, Bool.not_eq_true', decide_eq_false_iff_not] at ha
    have : ¬ a < Lib.ctz 64 m := fun hlt => by rw [h3 a hlt] at ha; simp at ha
    omega
  have hperm : ∀ a, a ∈ mem m ↔ a ∈ Lib.ctz 64 m :: mem (withoutN m (Lib.ctz 64 m)) := by
    intro a
    rw [List.mem_cons, mem_mem, mem_mem, testBit_withoutN hm h1]
    constructor
    · intro ⟨x, y⟩
      by_cases e : a = Lib.ctz 64 m
      · exact Or.inl e
      · exact Or.inr ⟨x, by simp [y]; omega⟩
    · intro h
      rcases h with h | ⟨x, y⟩
      · subst h; exact ⟨h1, h2⟩
      · exact ⟨x, by simp at y; exact y.1⟩
  have nd : ∀ {l : List Nat}, l.Pairwise (· < ·) → l.Nodup := fun h => h.imp (fun hab => by omega)
  have hp : (mem m).Perm (Lib.ctz 64 m :: mem (withoutN m (Lib.ctz 64 m))) := (List.perm_ext_iff_of_nodup (nd hs1) (nd hs2)).2 hperm
  exact hp.eq_of_pairwise (fun a b _ _ h1 h2 => by omega) hs1 hs2

theorem mem_zero : mem 0 = [] := by decide
theorem mem_nil_iff (m : Nat) (hm : m < 18446744073709551616) : mem m = [] ↔ m = 0 := by
  constructor
  · intro h
    by_cases e : m = 0
    · exact e
    · rw [mem_cons m hm e] at h; exact absurd h (by simp)
  · rintro rfl; exact mem_zero

/-- The set of a list of numbers below 64. -/
def ofList : List Nat → Nat
  | [] => 0
  | a :: l => withN (ofList l) a
theorem ofList_lt : ∀ l : List Nat, (∀ a ∈ l, a < 64) → ofList l < 18446744073709551616
  | [], _ => by simp [ofList]
  | a :: l, h => withN_lt (ofList_lt l fun x hx => h x (List.mem_cons_of_mem _ hx)) (h a (List.mem_cons_self ..))
theorem testBit_ofList : ∀ (l : List Nat) (i : Nat), (ofList l).testBit i = decide (i ∈ l)
  | [], i => by simp [ofList]
  | a :: l, i => by
    simp only [ofList, testBit_withN, testBit_ofList l i, List.mem_cons]
    rw [Bool.eq_iff_iff]
    simp only [Bool.or_eq_true, decide_eq_true_eq]
    constructor
    · rintro (h | h)
      · exact Or.inr h
      · exact Or.inl h.symm
    · rintro (h | h)
      · exact Or.inr h.symm
      · exact Or.inl h

/-- The n least numbers of a set. -/
def leastN (m n : Nat) : Nat := ofList ((mem m).take n)
theorem leastN_lt (m n : Nat) : leastN m n < 18446744073709551616 := ofList_lt _ fun _ ha => mem_lt (List.mem_of_mem_take ha)

/-- What is left of a set behind n rounds of taking its first number out. -/
def restN (m : Nat) : Nat → Nat
  | 0 => m
  | n + 1 => withoutN (restN m n) (Lib.ctz 64 (restN m n))
theorem restN_lt (m : Nat) (hm : m < 18446744073709551616) : ∀ n, restN m n < 18446744073709551616
  | 0 => hm
  | n + 1 => withoutN_lt _ (restN_lt m hm n)
theorem mem_restN (m : Nat) (hm : m < 18446744073709551616) : ∀ n, n ≤ (mem m).length → mem (restN m n) = (mem m).drop n
  | 0, _ => rfl
  | n + 1, h => by
    have ih := mem_restN m hm n (by omega)
    have h0 : restN m n ≠ 0 := by
      intro e
      rw [e, mem_zero] at ih
      have := congrArg List.length ih
      simp at this
      omega
    have hc := mem_cons (restN m n) (restN_lt m hm n) h0
    rw [ih] at hc
    have : (mem m).drop (n + 1) = mem (withoutN (restN m n) (Lib.ctz 64 (restN m n))) := by
      rw [← List.tail_drop, hc]; rfl
    rw [this]; rfl

theorem testBit_mem (m i : Nat) (hm : m < 18446744073709551616) : m.testBit i = decide (i ∈ mem m) := by
  rw [Bool.eq_iff_iff, decide_eq_true_iff, mem_mem]
  constructor
  · intro h
    refine ⟨?_, h⟩
    apply Nat.lt_of_not_le
    intro hi
    rw [testBit_high hm hi] at h
    cases h
  · exact fun h => h.2

theorem ofList_mem (m : Nat) (hm : m < 18446744073709551616) : ofList (mem m) = m := by
  apply Nat.eq_of_testBit_eq
  intro i
  rw [testBit_ofList, ← testBit_mem m i hm]

theorem nodup_mem (m : Nat) : (mem m).Nodup := (mem_sorted m).imp (fun hab => by omega)

/-- All of a set without what is left are its least. -/
theorem andNot_rest (m n : Nat) (hm : m < 18446744073709551616) (hn : n ≤ (mem m).length) : andNotN m (restN m n) = leastN m n := by
  apply Nat.eq_of_testBit_eq
  intro i
  rw [testBit_andNotN hm (restN_lt m hm n), testBit_mem m i hm, testBit_mem _ i (restN_lt m hm n), mem_restN m hm n hn]
  unfold leastN
  rw [testBit_ofList]
  have hnd := nodup_mem m
  rw [← List.take_append_drop n (mem m)] at hnd
  have hdis := (List.nodup_append.1 hnd).2.2
  have hmem : i ∈ mem m ↔ i ∈ (mem m).take n ∨ i ∈ (mem m).drop n := by
    conv => lhs; rw [← List.take_append_drop n (mem m)]
    exact List.mem_append
  rw [Bool.eq_iff_iff]
  simp only [Bool.and_eq_true, decide_eq_true_eq, Bool.not_eq_true', decide_eq_false_iff_not, hmem]
  constructor
  · rintro ⟨a | a, b⟩
    · exact a
    · exact absurd a b
  · intro a
    exact ⟨Or.inl a, fun b => hdis i a i b rfl⟩

theorem leastN_all (m n : Nat) (hm : m < 18446744073709551616) (hn : (mem m).length ≤ n) : leastN m n = m := by
  unfold leastN
  rw [List.take_of_length_le hn, ofList_mem m hm]

theorem restN_zero (m k : Nat) (hm : m < 18446744073709551616) (hk : k ≤ (mem m).length) : restN m k = 0 ↔ k = (mem m).length := by
  rw [← mem_nil_iff _ (restN_lt m hm k), mem_restN m hm k hk, List.drop_eq_nil_iff]
  omega

theorem leastN_same (m k n : Nat) (h : k = n ∨ k = (mem m).length ∧ k ≤ n) : leastN m k = leastN m n := by
  rcases h with h | ⟨h1, h2⟩
  · rw [h]
  · unfold leastN
    rw [List.take_of_length_le (by omega), List.take_of_length_le (by omega)]

end Go.Proofs.YtkogeeaoppkhkaaDoor.Ma
