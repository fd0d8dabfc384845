/-
  Blocks of one class that were answered, and are to come back: they tell what all superblocks are.
-/
import Derived.Test.YtkogeeaoppkhkaaDoorHeartP
import Derived.Test.YtkogeeaoppkhkaaDoorHeartRM
namespace Go.Proofs.YtkogeeaoppkhkaaDoor

theorem sortedR_ext {l l' : List Nat} (h1 : l.Pairwise (· < ·)) (h2 : l'.Pairwise (· < ·)) (h : ∀ a, a ∈ l ↔ a ∈ l') : l = l' := by
  have nd : ∀ {l : List Nat}, l.Pairwise (· < ·) → l.Nodup := fun h => h.imp (fun hab => by omega)
  have hp : l.Perm l' := (List.perm_ext_iff_of_nodup (nd h1) (nd h2)).2 h
  exact hp.eq_of_pairwise (fun a b _ _ h1 h2 => by omega) h1 h2
/-- The blocks of the superblock i among answers. -/
def outOf : List (Nat × Nat) → Nat → Nat
  | [], _ => 0
  | x :: r, i => if x.1 = i + 1 then x.2 ||| outOf r i else outOf r i
theorem outOf_app (r : List (Nat × Nat)) (x : Nat × Nat) (i : Nat) : outOf (r ++ [x]) i = if x.1 = i + 1 then outOf r i ||| x.2 else outOf r i := by
  induction r with
  | nil => simp [outOf]
  | cons y r ih =>
    simp only [List.cons_append, outOf, ih]
    by_cases h1 : y.1 = i + 1
    · by_cases h2 : x.1 = i + 1
      · simp only [h1, h2, if_true, Nat.or_assoc]
      · simp only [h1, h2, if_true, if_false]
    · simp only [h1, if_false]
/-- Answers that may be: each of some superblock, with some of its blocks, none of them twice. -/
def Well (S low : Nat) : List (Nat × Nat) → Prop
  | [] => True
  | x :: r => 1 ≤ x.1 ∧ x.1 ≤ S ∧ x.2 ≠ 0 ∧ (∀ j, x.2.testBit j = true → low.testBit j = true) ∧ x.2 < 18446744073709551616 ∧ (∀ j, x.2.testBit j = true → (outOf r (x.1 - 1)).testBit j = false) ∧ Well S low r
def sbOf (C low o : Nat) : Sb := if o = 0 then Sb.none else ⟨1, C, Ma.andNotN low o⟩
def stOf (S C low : Nat) (r : List (Nat × Nat)) : List Sb := (List.range S).map fun i => sbOf C low (outOf r i)
theorem stOf_len (S C low : Nat) (r : List (Nat × Nat)) : (stOf S C low r).length = S := by simp [stOf]
theorem stOf_at {S C low : Nat} {r : List (Nat × Nat)} {i : Nat} (h : i < S) : (stOf S C low r)[i]? = some (sbOf C low (outOf r i)) := by simp [stOf, h]
theorem stOf_getD {S C low : Nat} {r : List (Nat × Nat)} {i : Nat} (h : i < S) : (stOf S C low r).getD i Sb.none = sbOf C low (outOf r i) := getD_of (stOf_at h)
theorem stOf_nil (S C low : Nat) : stOf S C low [] = List.replicate S Sb.none := by
  apply List.ext_getElem?
  intro i
  by_cases h : i < S
  · rw [stOf_at h, List.getElem?_replicate, if_pos h]; rfl
  · rw [List.getElem?_eq_none (by rw [stOf_len]; omega), List.getElem?_eq_none (by simp; omega)]
theorem outOf_lt {S low : Nat} {r : List (Nat × Nat)} (h : Well S low r) (i : Nat) : outOf r i < 18446744073709551616 := by
  induction r with
  | nil => simp [outOf]
  | cons x r ih =>
    obtain ⟨_, _, _, _, h5, _, h7⟩ := h
    unfold outOf
    split
    · exact Ma.or_lt h5 (ih h7)
    · exact ih h7
theorem outOf_sub {S low : Nat} {r : List (Nat × Nat)} (h : Well S low r) (i j : Nat) (hj : (outOf r i).testBit j = true) : low.testBit j = true := by
  induction r with
  | nil => simp [outOf] at hj
  | cons x r ih =>
    obtain ⟨_, _, _, h4, _, _, h7⟩ := h
    unfold outOf at hj
    split at hj
    · rw [Nat.testBit_or, Bool.or_eq_true] at hj
      rcases hj with hj | hj
      · exact h4 j hj
      · exact ih h7 hj
    · exact ih h7 hj
theorem well_app {S low : Nat} {r : List (Nat × Nat)} {x : Nat × Nat} (h : Well S low r) (h1 : 1 ≤ x.1 ∧ x.1 ≤ S) (h2 : x.2 ≠ 0) (h3 : ∀ j, x.2.testBit j = true → low.testBit j = true) (h4 : x.2 < 18446744073709551616) (h5 : ∀ j, x.2.testBit j = true → (outOf r (x.1 - 1)).testBit j = false) : Well S low (r ++ [x]) := by
  induction r with
  | nil => exact ⟨h1.1, h1.2, h2, h3, h4, fun _ _ => by simp [outOf], trivial⟩
  | cons y r ih =>
    obtain ⟨g1, g2, g3, g4, g5, g6, g7⟩ := h
    refine ⟨g1, g2, g3, g4, g5, fun j hj => ?_, ih g7 (fun j hj => ?_)⟩
    · show (outOf (r ++ [x]) (y.1 - 1)).testBit j = false
      rw [outOf_app]
      split
      case isTrue e =>
        have e1 : y.1 = (x.1 - 1) + 1 := by omega
        rw [Nat.testBit_or, g6 j hj, Bool.false_or, Bool.eq_false_iff]
        intro hx
        have := h5 j hx
        unfold outOf at this
        rw [if_pos e1, Nat.testBit_or, hj] at this
        simp at this
      · exact g6 j hj
    · have := h5 j hj
      unfold outOf at this
      split at this
      · rw [Nat.testBit_or, Bool.or_eq_false_iff] at this; exact this.2
      · exact this
/-- A refill, by what there was before. -/
theorem refill_st {cap : Nat → Nat} {batch S C : Nat} {r : List (Nat × Nat)} (hc : 1 ≤ cap C ∧ cap C ≤ 64) (hb : 1 ≤ batch) (h : Well S (Ma.lowN (cap C)) r) :
    (∃ x, refillP cap batch (stOf S C (Ma.lowN (cap C)) r) C = (stOf S C (Ma.lowN (cap C)) (r ++ [x]), x) ∧ Well S (Ma.lowN (cap C)) (r ++ [x]) ∧ (Ma.mem x.2).length ≤ batch) ∨
    (refillP cap batch (stOf S C (Ma.lowN (cap C)) r) C = (stOf S C (Ma.lowN (cap C)) r, (0, 0)) ∧ ∀ i, i < S → outOf r i = Ma.lowN (cap C)) := by
  have hl : Ma.lowN (cap C) < 18446744073709551616 := Ma.lowN_lt hc.2
  have hl0 : Ma.lowN (cap C) ≠ 0 := by
    intro e
    have := Ma.testBit_lowN (cap C) 0
    rw [e] at this
    simp at this
    omega
  generalize hL : Ma.lowN (cap C) = L at *
  -- what is taken out of i is an answer more
  have step : ∀ i m, i < S → m ≠ 0 → m = Ma.andNotN L (outOf r i) →
      (stOf S C L r).set i ⟨1, C, Ma.andNotN m (Ma.leastN m batch)⟩ = stOf S C L (r ++ [(i + 1, Ma.leastN m batch)]) ∧ Well S L (r ++ [(i + 1, Ma.leastN m batch)]) ∧ (Ma.mem (Ma.leastN m batch)).length ≤ batch := by
    intro i m hi hm0 hm
    have ho := outOf_lt h i
    have hm64 : m < 18446744073709551616 := by rw [hm]; exact Ma.andNotN_lt _ hl
    have hle : ∀ j, (Ma.leastN m batch).testBit j = true → m.testBit j = true := fun j hj => by
      unfold Ma.leastN at hj
      rw [Ma.testBit_ofList] at hj
      have := List.mem_of_mem_take (of_decide_eq_true hj)
      exact ((Ma.mem_mem m j).1 this).2
    have hB0 : Ma.leastN m batch ≠ 0 := by
      intro e
      have hne : Ma.mem m ≠ [] := fun e2 => hm0 ((Ma.mem_nil_iff m hm64).1 e2)
      cases hmm : Ma.mem m with
      | nil => exact hne hmm
      | cons a t =>
        have : (Ma.leastN m batch).testBit a = true := by
          unfold Ma.leastN
          rw [Ma.testBit_ofList, hmm]
          obtain ⟨q, rfl⟩ : ∃ q, batch = q + 1 := ⟨batch - 1, by omega⟩
          simp
        rw [e] at this
        simp at this
    have hmb : ∀ j, m.testBit j = true → L.testBit j = true ∧ (outOf r i).testBit j = false := fun j hj => by
      rw [hm, Ma.testBit_andNotN hl ho] at hj
      simpa using hj
    have hw : Well S L (r ++ [(i + 1, Ma.leastN m batch)]) := well_app h ⟨Nat.le_add_left 1 i, hi⟩ hB0 (fun j hj => (hmb j (hle j hj)).1) (Ma.leastN_lt m batch) (fun j hj => (hmb j (hle j hj)).2)
    refine ⟨?_, hw, ?_⟩
    · apply List.ext_getElem?
      intro j
      rw [set_at, stOf_len]
      by_cases hj : j = i
      · subst hj
        rw [if_pos ⟨rfl, hi⟩, stOf_at hi, outOf_app]
        simp only [if_true]
        have hne : outOf r j ||| Ma.leastN m batch ≠ 0 := by
          intro e
          apply hB0
          refine Ma.word_ext (Ma.leastN_lt m batch) (by decide) fun q _ => ?_
          have : (outOf r j ||| Ma.leastN m batch).testBit q = false := by rw [e]; simp
          rw [Nat.testBit_or, Bool.or_eq_false_iff] at this
          rw [this.2]; simp
        unfold sbOf
        rw [if_neg hne]
        congr 2
        refine Ma.word_ext (Ma.andNotN_lt _ hm64) (Ma.andNotN_lt _ hl) fun q _ => ?_
        rw [Ma.testBit_andNotN hm64 (Ma.leastN_lt m batch), hm, Ma.testBit_andNotN hl ho, Ma.testBit_andNotN hl (Ma.or_lt ho (Ma.leastN_lt _ batch)), Nat.testBit_or]
        cases L.testBit q <;> cases (outOf r j).testBit q <;> simp
      · rw [if_neg (fun e => hj e.1)]
        by_cases hjs : j < S
        · rw [stOf_at hjs, stOf_at hjs, outOf_app, if_neg (by simp; omega)]
        · rw [List.getElem?_eq_none (by rw [stOf_len]; omega), List.getElem?_eq_none (by rw [stOf_len]; omega)]
    · have : Ma.mem (Ma.leastN m batch) = (Ma.mem m).take batch := by
        refine sortedR_ext (Ma.mem_sorted _) ((Ma.mem_sorted m).sublist (List.take_sublist _ _)) fun a => ?_
        rw [Ma.mem_mem]
        unfold Ma.leastN
        rw [Ma.testBit_ofList]
        constructor
        · rintro ⟨_, h2⟩; exact of_decide_eq_true h2
        · intro h2; exact ⟨Ma.mem_lt (List.mem_of_mem_take h2), by simpa using h2⟩
      rw [this, List.length_take]
      omega
  unfold refillP
  rw [if_neg (by omega)]
  unfold srcP
  rw [stOf_len, hL]
  cases h1 : firstTo (isOf C) (stOf S C L r) S with
  | some i =>
    obtain ⟨hi, hp, _⟩ := firstTo_some h1
    rw [stOf_getD hi] at hp
    simp only [stOf_getD hi]
    have ho : outOf r i ≠ 0 := by
      intro e
      rw [e] at hp
      simp [sbOf, isOf, Sb.none] at hp
    have hm : (sbOf C L (outOf r i)).m = Ma.andNotN L (outOf r i) := by simp [sbOf, ho]
    have hm0 : (sbOf C L (outOf r i)).m ≠ 0 := by
      unfold isOf at hp
      simp at hp
      exact hp.2.2
    obtain ⟨s1, s2, s3⟩ := step i _ hi hm0 hm
    exact .inl ⟨(i + 1, _), by rw [← s1], s2, s3⟩
  | none =>
    simp only
    have n1 := firstTo_no h1
    cases h2 : firstTo isFree (stOf S C L r) S with
    | some i =>
      obtain ⟨hi, hp, _⟩ := firstTo_some h2
      rw [stOf_getD hi] at hp
      have ho : outOf r i = 0 := by
        false_or_by_contra
        rename_i ho
        simp [sbOf, isFree, ho] at hp
      obtain ⟨s1, s2, s3⟩ := step i L hi hl0 (by rw [ho]; refine Ma.word_ext hl (Ma.andNotN_lt _ hl) fun q _ => ?_; rw [Ma.testBit_andNotN hl (by decide)]; simp)
      exact .inl ⟨(i + 1, _), by rw [← s1], s2, s3⟩
    | none =>
      have n2 := firstTo_no h2
      refine .inr ⟨rfl, fun i hi => ?_⟩
      have a1 := n1 i hi
      have a2 := n2 i hi
      rw [stOf_getD hi] at a1 a2
      have ho : outOf r i ≠ 0 := by
        intro e
        rw [e] at a2
        simp [sbOf, isFree, Sb.none] at a2
      have hz : Ma.andNotN L (outOf r i) = 0 := by
        unfold isOf sbOf at a1
        rw [if_neg ho] at a1
        simpa using a1
      refine Ma.word_ext (outOf_lt h i) hl fun q _ => ?_
      have hq : (Ma.andNotN L (outOf r i)).testBit q = false := by rw [hz]; simp
      rw [Ma.testBit_andNotN hl (outOf_lt h i)] at hq
      cases e : (outOf r i).testBit q with
      | true => rw [outOf_sub h i q e]
      | false => rw [e] at hq; simpa using hq.symm
/-- The first answer comes back. -/
theorem flush_st {cap : Nat → Nat} {S C : Nat} {x : Nat × Nat} {r : List (Nat × Nat)} (hc : cap C ≤ 64) (h : Well S (Ma.lowN (cap C)) (x :: r)) :
    flushP cap (stOf S C (Ma.lowN (cap C)) (x :: r)) (x.1 - 1) x.2 = (stOf S C (Ma.lowN (cap C)) r, (1, 0)) := by
  have hl : Ma.lowN (cap C) < 18446744073709551616 := Ma.lowN_lt hc
  obtain ⟨h1, h2, h3, h4, h5, h6, h7⟩ := h
  obtain ⟨A, D⟩ := x
  simp only at h1 h2 h3 h4 h5 h6
  obtain ⟨i, rfl⟩ : ∃ i, A = i + 1 := ⟨A - 1, by omega⟩
  simp only [Nat.add_sub_cancel] at h6 ⊢
  have hi : i < S := by omega
  have ho := outOf_lt h7 i
  have hout : outOf ((i + 1, D) :: r) i = D ||| outOf r i := by simp [outOf]
  have hne : D ||| outOf r i ≠ 0 := by
    intro e
    apply h3
    refine Ma.word_ext h5 (by decide) fun q _ => ?_
    have : (D ||| outOf r i).testBit q = false := by rw [e]; simp
    rw [Nat.testBit_or, Bool.or_eq_false_iff] at this
    rw [this.1]; simp
  generalize hL : Ma.lowN (cap C) = L at *
  have hs : sbOf C L (outOf ((i + 1, D) :: r) i) = ⟨1, C, Ma.andNotN L (D ||| outOf r i)⟩ := by rw [hout]; unfold sbOf; rw [if_neg hne]
  have hdo := Ma.or_lt h5 ho
  have hor : Ma.andNotN L (D ||| outOf r i) ||| D = Ma.andNotN L (outOf r i) := by
    refine Ma.word_ext (Ma.or_lt (Ma.andNotN_lt _ hl) h5) (Ma.andNotN_lt _ hl) fun q _ => ?_
    rw [Nat.testBit_or, Ma.testBit_andNotN hl hdo, Ma.testBit_andNotN hl ho, Nat.testBit_or]
    cases e : D.testBit q with
    | false => simp
    | true => rw [h4 q e, h6 q e]; simp
  have hfb : flushB L (Ma.andNotN L (D ||| outOf r i)) D = true := by
    unfold flushB
    have a1 : Ma.andNotN D L = 0 := by
      refine Ma.word_ext (Ma.andNotN_lt _ h5) (by decide) fun q _ => ?_
      rw [Ma.testBit_andNotN h5 hl]
      cases e : D.testBit q with
      | false => simp
      | true => rw [h4 q e]; simp
    have a2 : D &&& Ma.andNotN L (D ||| outOf r i) = 0 := by
      refine Ma.word_ext (Ma.and_lt _ h5) (by decide) fun q _ => ?_
      rw [Nat.testBit_and, Ma.testBit_andNotN hl hdo, Nat.testBit_or]
      cases D.testBit q <;> simp
    simp [h3, a1, a2]
  unfold flushP
  rw [stOf_at hi, hs]
  simp only
  rw [hL, if_pos (show True ∧ _ from ⟨trivial, hfb⟩), hor]
  congr 1
  apply List.ext_getElem?
  intro j
  rw [set_at, stOf_len]
  by_cases hj : j = i
  · subst hj
    rw [if_pos ⟨rfl, hi⟩, stOf_at hi]
    unfold sbOf
    by_cases h0 : outOf r j = 0
    · rw [if_pos h0, h0, if_pos]
      refine Ma.word_ext (Ma.andNotN_lt _ hl) hl fun q _ => ?_
      rw [Ma.testBit_andNotN hl (by decide)]; simp
    · rw [if_neg h0, if_neg]
      intro e
      apply h0
      refine Ma.word_ext ho (by decide) fun q _ => ?_
      cases e2 : (outOf r j).testBit q with
      | false => simp
      | true =>
        have h8 := outOf_sub h7 j q e2
        rw [← e, Ma.testBit_andNotN hl ho, e2] at h8
        simp at h8
  · rw [if_neg (fun e => hj e.1)]
    by_cases hjs : j < S
    · rw [stOf_at hjs, stOf_at hjs]
      congr 2
      simp only [outOf]
      rw [if_neg (by omega)]
    · rw [List.getElem?_eq_none (by rw [stOf_len]; omega), List.getElem?_eq_none (by rw [stOf_len]; omega)]
theorem well_last {S low : Nat} {r : List (Nat × Nat)} {A D : Nat} (h : Well S low (r ++ [(A, D)])) : 1 ≤ A ∧ A ≤ S ∧ D < 18446744073709551616 := by
  induction r with
  | nil => exact ⟨h.1, h.2.1, h.2.2.2.2.1⟩
  | cons y r ih => exact ih h.2.2.2.2.2.2
/-- Where all blocks are out none is free. -/
theorem take_full {S C low n : Nat} {r : List (Nat × Nat)} (hl : low ≠ 0) (hf : ∀ i, i < S → outOf r i = low) (hn : 1 ≤ n) : takeP (stOf S C low r) n = (stOf S C low r, (0, 0)) := by
  unfold takeP
  rw [if_neg (by omega), rowTo_eq_none]
  intro j hj
  rw [stOf_len] at hj
  rw [Bool.eq_false_iff]
  intro hr
  have := (freeRow_iff.1 hr).2 0 (by omega)
  rw [Nat.add_zero, stOf_getD hj, hf j hj] at this
  simp [sbOf, hl, isFree] at this
/-- Where all are free, all of them are a run. -/
theorem take_all {S : Nat} (hS : 1 ≤ S) : (takeP (List.replicate S Sb.none) S).2 = (1, 0) := by
  have hf : freeRow (List.replicate S Sb.none) 0 S = true := freeRow_iff.2 ⟨by simp, fun j hj => by
    rw [Nat.zero_add, List.getD_eq_getElem?_getD, List.getElem?_replicate, if_pos hj]; rfl⟩
  unfold takeP
  rw [if_neg (by omega), rowTo_eq (a := 0) (by simp; omega) hf (fun j hj => by omega)]
/-! How many blocks there are -/
theorem filt_or {p q : Nat → Bool} (h : ∀ j, p j = true → q j = false) (l : List Nat) : (l.filter fun i => p i || q i).length = (l.filter p).length + (l.filter q).length := by
  induction l with
  | nil => rfl
  | cons x l ih =>
    rw [List.filter_cons, List.filter_cons, List.filter_cons]
    cases e : p x with
    | true => rw [h x e]; simp only [Bool.true_or, if_true, List.length_cons, ih]; simp; omega
    | false =>
      cases e2 : q x with
      | true => simp only [Bool.false_or, if_true, List.length_cons, ih]; simp; omega
      | false => simp [ih]
theorem mem_or {a b : Nat} (h : ∀ j, a.testBit j = true → b.testBit j = false) : (Ma.mem (a ||| b)).length = (Ma.mem a).length + (Ma.mem b).length := by
  have := filt_or (p := a.testBit) (q := b.testBit) h (List.range 64)
  unfold Ma.mem
  simp only [Nat.testBit_or]
  exact this
def cntA : List (Nat × Nat) → Nat
  | [] => 0
  | x :: r => (Ma.mem x.2).length + cntA r
theorem cntA_app (r : List (Nat × Nat)) (x : Nat × Nat) : cntA (r ++ [x]) = cntA r + (Ma.mem x.2).length := by
  induction r with
  | nil => simp [cntA]
  | cons y r ih => simp only [List.cons_append, cntA, ih]; omega
def sumN (f : Nat → Nat) : Nat → Nat
  | 0 => 0
  | k + 1 => sumN f k + f k
theorem sumN_congr {f g : Nat → Nat} {k : Nat} (h : ∀ i, i < k → f i = g i) : sumN f k = sumN g k := by
  induction k with
  | zero => rfl
  | succ k ih => simp only [sumN]; rw [ih (fun i hi => h i (by omega)), h k (by omega)]
theorem sumN_one {f : Nat → Nat} {k i d : Nat} (hi : i < k) : sumN (fun j => if j = i then f j + d else f j) k = sumN f k + d := by
  induction k with
  | zero => omega
  | succ k ih =>
    simp only [sumN]
    by_cases e : i = k
    · subst e
      rw [if_pos rfl, sumN_congr (g := f) (fun j hj => if_neg (by omega))]; omega
    · rw [ih (by omega), if_neg (fun e2 => e e2.symm)]; omega
theorem sumN_const (c k : Nat) : sumN (fun _ => c) k = k * c := by
  induction k with
  | zero => simp [sumN]
  | succ k ih => simp only [sumN, ih, Nat.add_mul]; omega
theorem sumN_le {f g : Nat → Nat} {k : Nat} (h : ∀ i, i < k → f i ≤ g i) : sumN f k ≤ sumN g k := by
  induction k with
  | zero => simp [sumN]
  | succ k ih => simp only [sumN]; have := ih (fun i hi => h i (by omega)); have := h k (by omega); omega
theorem cnt_out {S low : Nat} {r : List (Nat × Nat)} (h : Well S low r) : cntA r = sumN (fun i => (Ma.mem (outOf r i)).length) S := by
  induction r with
  | nil => simp only [cntA, outOf, Ma.mem_zero]; rw [sumN_const]; simp
  | cons x r ih =>
    obtain ⟨h1, h2, _, _, _, h6, h7⟩ := h
    have e : sumN (fun i => (Ma.mem (outOf (x :: r) i)).length) S = sumN (fun j => if j = x.1 - 1 then (Ma.mem (outOf r j)).length + (Ma.mem x.2).length else (Ma.mem (outOf r j)).length) S := by
      refine sumN_congr fun i _ => ?_
      simp only [outOf]
      by_cases e : x.1 = i + 1
      · rw [if_pos e, if_pos (by omega), mem_or (by rw [show i = x.1 - 1 from by omega]; exact h6)]; omega
      · rw [if_neg e, if_neg (by omega)]
    rw [e, sumN_one (f := fun j => (Ma.mem (outOf r j)).length) (by omega), cntA, ih h7]; omega
theorem mem_low {n : Nat} (h : n ≤ 64) : (Ma.mem (Ma.lowN n)).length = n := by
  have : Ma.mem (Ma.lowN n) = List.range n := sortedR_ext (Ma.mem_sorted _) (List.pairwise_lt_range) fun a => by
    rw [Ma.mem_mem, Ma.testBit_lowN, List.mem_range, decide_eq_true_eq]; omega
  rw [this, List.length_range]
theorem mem_sub {a b : Nat} (h : ∀ j, a.testBit j = true → b.testBit j = true) : (Ma.mem a).length ≤ (Ma.mem b).length := by
  unfold Ma.mem
  generalize List.range 64 = l
  induction l with
  | nil => simp
  | cons x l ih =>
    simp only [List.filter_cons]
    cases e : a.testBit x with
    | true => rw [h x e]; simpa using ih
    | false => cases b.testBit x <;> simp <;> omega
theorem cnt_full {S n : Nat} {r : List (Nat × Nat)} (hn : n ≤ 64) (h : Well S (Ma.lowN n) r) (hf : ∀ i, i < S → outOf r i = Ma.lowN n) : cntA r = S * n := by
  rw [cnt_out h, sumN_congr (g := fun _ => n) (fun i hi => by rw [hf i hi, mem_low hn]), sumN_const]
theorem cnt_le {S n : Nat} {r : List (Nat × Nat)} (hn : n ≤ 64) (h : Well S (Ma.lowN n) r) : cntA r ≤ S * n := by
  rw [cnt_out h, ← sumN_const n S]
  exact sumN_le fun i _ => by have := mem_sub (outOf_sub h i); rwa [mem_low hn] at this
theorem len_cnt {S low : Nat} {r : List (Nat × Nat)} (h : Well S low r) : r.length ≤ cntA r := by
  induction r with
  | nil => simp
  | cons x r ih =>
    obtain ⟨_, _, h3, _, h5, _, h7⟩ := h
    have h8 : Ma.mem x.2 ≠ [] := fun e => h3 ((Ma.mem_nil_iff x.2 h5).1 e)
    have h9 : 0 < (Ma.mem x.2).length := List.length_pos_iff.2 h8
    have := ih h7
    simp only [List.length_cons, cntA]; omega
end Go.Proofs.YtkogeeaoppkhkaaDoor
