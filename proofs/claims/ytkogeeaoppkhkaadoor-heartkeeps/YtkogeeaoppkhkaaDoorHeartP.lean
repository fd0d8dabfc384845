/-
  Superblocks, plainly: what each is, how they lie in words, and what is done to them when something is asked.
-/
import Derived.Test.YtkogeeaoppkhkaaDoorMaskM
namespace Go.Proofs.YtkogeeaoppkhkaaDoor

/-- A superblock: free (0), of the class n (1) with its free blocks m, the first of n in a row (2), another one of some (3). -/
structure Sb where
  k : Nat
  n : Nat
  m : Nat
def Sb.none : Sb := ⟨0, 0, 0⟩
def encS (s : Sb) : List Nat := [s.k + 256 * s.n, s.m]
def encL (l : List Sb) : List Nat := l.flatMap encS
theorem encL_len (l : List Sb) : (encL l).length = 2 * l.length := by
  induction l with
  | nil => rfl
  | cons x l ih => simp only [encL, List.flatMap_cons, List.length_append, List.length_cons] at ih ⊢; rw [ih]; simp [encS]; omega
theorem encL_at0 {l : List Sb} {i : Nat} {s : Sb} (r : List Nat) (h : l[i]? = some s) : (encL l ++ r)[2 * i]? = some (s.k + 256 * s.n) := by
  induction l generalizing i with
  | nil => cases h
  | cons x l ih =>
    cases i with
    | zero => simp at h; subst h; simp [encL, encS]
    | succ i =>
      simp at h
      have := ih h
      rw [show 2 * (i + 1) = 2 * i + 1 + 1 by omega]
      simpa [encL, encS] using this
theorem encL_at1 {l : List Sb} {i : Nat} {s : Sb} (r : List Nat) (h : l[i]? = some s) : (encL l ++ r)[2 * i + 1]? = some s.m := by
  induction l generalizing i with
  | nil => cases h
  | cons x l ih =>
    cases i with
    | zero => simp at h; subst h; simp [encL, encS]
    | succ i =>
      simp at h
      have := ih h
      rw [show 2 * (i + 1) + 1 = 2 * i + 1 + 1 + 1 by omega]
      simpa [encL, encS] using this
theorem encL_set {l : List Sb} {i : Nat} (s : Sb) (r : List Nat) (h : i < l.length) : ((encL l ++ r).set (2 * i) (s.k + 256 * s.n)).set (2 * i + 1) s.m = encL (l.set i s) ++ r := by
  induction l generalizing i with
  | nil => simp at h
  | cons x l ih =>
    cases i with
    | zero => simp [encL, encS]
    | succ i =>
      simp at h
      have := ih h
      rw [show 2 * (i + 1) + 1 = 2 * i + 1 + 1 + 1 by omega, show 2 * (i + 1) = 2 * i + 1 + 1 by omega]
      simpa [encL, encS] using this

/-- A superblock that fits its words. -/
def OkS (s : Sb) : Prop := s.k ≤ 3 ∧ s.n < 4294967296 ∧ s.m < 18446744073709551616
def OkL (l : List Sb) : Prop := ∀ s ∈ l, OkS s
theorem OkL.at {l : List Sb} (h : OkL l) {i : Nat} {s : Sb} (hi : l[i]? = some s) : OkS s := h s (List.mem_of_getElem? hi)
theorem OkL.set {l : List Sb} (h : OkL l) {i : Nat} {s : Sb} (hs : OkS s) : OkL (l.set i s) := fun x hx => by
  rcases List.mem_or_eq_of_mem_set hx with hx | rfl
  · exact h x hx
  · exact hs
theorem ok_none : OkS Sb.none := ⟨by decide, by decide, by decide⟩
theorem encL_lt {l : List Sb} (h : OkL l) : ∀ x ∈ encL l, x < 18446744073709551616 := by
  intro x hx
  obtain ⟨s, hs, hx⟩ := List.mem_flatMap.1 hx
  obtain ⟨h1, h2, h3⟩ := h s hs
  simp [encS] at hx
  rcases hx with rfl | rfl <;> omega

/-- The superblocks among the first ones that are so, as a set; the first of them. -/
def thoseTo (p : Sb → Bool) (l : List Sb) : Nat → Nat
  | 0 => 0
  | k + 1 => if p (l.getD k Sb.none) then Ma.withN (thoseTo p l k) k else thoseTo p l k
def firstTo (p : Sb → Bool) (l : List Sb) : Nat → Option Nat
  | 0 => none
  | k + 1 => match firstTo p l k with
    | some i => some i
    | none => if p (l.getD k Sb.none) then some k else none
theorem thoseTo_lt (p : Sb → Bool) (l : List Sb) : ∀ k, k ≤ 64 → thoseTo p l k < 18446744073709551616
  | 0, _ => by simp [thoseTo]
  | k + 1, h => by
    unfold thoseTo
    split
    · exact Ma.withN_lt (thoseTo_lt p l k (by omega)) (by omega)
    · exact thoseTo_lt p l k (by omega)
theorem testBit_thoseTo (p : Sb → Bool) (l : List Sb) : ∀ k i, (thoseTo p l k).testBit i = (decide (i < k) && p (l.getD i Sb.none))
  | 0, i => by simp [thoseTo]
  | k + 1, i => by
    unfold thoseTo
    have ih := testBit_thoseTo p l k i
    by_cases hp : p (l.getD k Sb.none) = true
    · rw [if_pos hp, Ma.testBit_withN, ih]
      by_cases e : k = i
      · subst e; simp at hp; simp [hp]
      · have : decide (i < k + 1) = decide (i < k) := by simp; omega
        rw [this]; simp [e]
    · rw [if_neg hp, ih]
      by_cases e : k = i
      · subst e; simp at hp; simp [hp]
      · have : decide (i < k + 1) = decide (i < k) := by simp; omega
        rw [this]
theorem firstTo_some {p : Sb → Bool} {l : List Sb} : ∀ {k i : Nat}, firstTo p l k = some i → i < k ∧ p (l.getD i Sb.none) = true ∧ ∀ j, j < i → p (l.getD j Sb.none) = false
  | 0, i, h => by cases h
  | k + 1, i, h => by
    unfold firstTo at h
    cases e : firstTo p l k with
    | some j => rw [e] at h; simp at h; subst h; obtain ⟨h1, h2⟩ := firstTo_some e; exact ⟨by omega, h2⟩
    | none =>
      rw [e] at h
      simp only [] at h
      split at h
      case isTrue hp => simp at h; subst h; exact ⟨by omega, hp, fun j hj => firstTo_none e j hj⟩
      case isFalse => cases h
where
  firstTo_none {p : Sb → Bool} {l : List Sb} : ∀ {k : Nat}, firstTo p l k = none → ∀ j, j < k → p (l.getD j Sb.none) = false
  | 0, _, j, hj => by omega
  | k + 1, h, j, hj => by
    unfold firstTo at h
    cases e : firstTo p l k with
    | some i => rw [e] at h; cases h
    | none =>
      rw [e] at h
      simp only [] at h
      split at h
      case isTrue => cases h
      case isFalse hp =>
        rcases Nat.lt_succ_iff_lt_or_eq.1 hj with h1 | rfl
        · exact firstTo_none e j h1
        · simpa using hp
theorem firstTo_no {p : Sb → Bool} {l : List Sb} {k : Nat} (h : firstTo p l k = none) : ∀ j, j < k → p (l.getD j Sb.none) = false := firstTo_some.firstTo_none h
theorem those_zero {p : Sb → Bool} {l : List Sb} {k : Nat} (hk : k ≤ 64) (h : firstTo p l k = none) : thoseTo p l k = 0 := by
  refine Ma.word_ext (thoseTo_lt p l k hk) (by decide) fun i _ => ?_
  rw [testBit_thoseTo]
  by_cases hi : i < k
  · rw [firstTo_no h i hi]; simp
  · simp [hi]
theorem those_first {p : Sb → Bool} {l : List Sb} {k i : Nat} (hk : k ≤ 64) (h : firstTo p l k = some i) : thoseTo p l k ≠ 0 ∧ Lib.ctz 64 (thoseTo p l k) = i := by
  obtain ⟨h1, h2, h3⟩ := firstTo_some h
  have hb : (thoseTo p l k).testBit i = true := by rw [testBit_thoseTo, h2]; simp [h1]
  have h0 : thoseTo p l k ≠ 0 := by intro e; rw [e] at hb; simp at hb
  refine ⟨h0, ?_⟩
  obtain ⟨c1, c2, c3⟩ := Ma.ctz_spec _ (thoseTo_lt p l k hk) h0
  rcases Nat.lt_trichotomy (Lib.ctz 64 (thoseTo p l k)) i with h4 | h4 | h4
  · rw [testBit_thoseTo, h3 _ h4] at c2; simp at c2
  · exact h4
  · rw [c3 i h4] at hb; cases hb

/-! ### What is asked -/
def isFree (s : Sb) : Bool := s.k == 0
def isOf (c : Nat) (s : Sb) : Bool := s.k == 1 && (s.n == c && s.m != 0)
/-- The superblock that blocks of a class come out of, and its blocks. -/
def srcP (cap : Nat) (l : List Sb) (c : Nat) : Option (Nat × Nat) := match firstTo (isOf c) l l.length with
  | some i => some (i, (l.getD i Sb.none).m)
  | none => match firstTo isFree l l.length with
    | some i => some (i, Ma.lowN cap)
    | none => none
def refillP (cap : Nat → Nat) (batch : Nat) (l : List Sb) (c : Nat) : List Sb × (Nat × Nat) :=
  if cap c = 0 then (l, (0, 0)) else match srcP (cap c) l c with
    | some (i, m) => (l.set i ⟨1, c, Ma.andNotN m (Ma.leastN m batch)⟩, (i + 1, Ma.leastN m batch))
    | none => (l, (0, 0))
def flushB (all m back : Nat) : Bool := back != 0 && (Ma.andNotN back all == 0 && back &&& m == 0)
def flushP (cap : Nat → Nat) (l : List Sb) (i back : Nat) : List Sb × (Nat × Nat) := match l[i]? with
  | some s => if s.k = 1 ∧ flushB (Ma.lowN (cap s.n)) s.m back = true then
      (l.set i (if s.m ||| back = Ma.lowN (cap s.n) then Sb.none else ⟨1, s.n, s.m ||| back⟩), (1, 0)) else (l, (0, 0))
  | none => (l, (0, 0))
def freeRow (l : List Sb) (a n : Nat) : Bool := decide (a + n ≤ l.length) && (List.range n).all fun j => isFree (l.getD (a + j) Sb.none)
def rowTo' (l : List Sb) (n : Nat) : Nat → Option Nat
  | 0 => none
  | k + 1 => match rowTo' l n k with
    | some i => some i
    | none => if freeRow l k n then some k else none
def runP (l : List Sb) (a n : Nat) : Nat → List Sb
  | 0 => l.set a ⟨2, n, 0⟩
  | k + 1 => (runP l a n k).set (a + (k + 1)) ⟨3, 0, 0⟩
def takeP (l : List Sb) (n : Nat) : List Sb × (Nat × Nat) :=
  if n = 0 then (l, (0, 0)) else match rowTo' l n l.length with
    | some a => (runP l a n (n - 1), (a + 1, 0))
    | none => (l, (0, 0))
def clearP (l : List Sb) (a : Nat) : Nat → List Sb
  | 0 => l
  | k + 1 => (clearP l a k).set (a + k) Sb.none
def giveP (l : List Sb) (i : Nat) : List Sb × (Nat × Nat) := match l[i]? with
  | some s => if s.k = 2 ∧ 0 < s.n then (clearP l i (min s.n (l.length - i)), (1, 0)) else (l, (0, 0))
  | none => (l, (0, 0))
def appP (cap : Nat → Nat) (batch : Nat) (l : List Sb) (op : Nat × Nat) : List Sb × (Nat × Nat) :=
  if 1099511627776 ≤ op.1 then (l, (0, 0))
  else if op.1 % 256 = 1 then refillP cap batch l (op.1 / 256)
  else if op.1 % 256 = 2 then flushP cap l (op.1 / 256) op.2
  else if op.1 % 256 = 3 then takeP l (op.1 / 256)
  else if op.1 % 256 = 4 then giveP l (op.1 / 256)
  else (l, (0, 0))

theorem rowTo_some {l : List Sb} {n : Nat} : ∀ {k a : Nat}, rowTo' l n k = some a → a < k ∧ freeRow l a n = true ∧ ∀ j, j < a → freeRow l j n = false
  | 0, i, h => by cases h
  | k + 1, i, h => by
    unfold rowTo' at h
    cases e : rowTo' l n k with
    | some j => rw [e] at h; simp at h; subst h; obtain ⟨h1, h2⟩ := rowTo_some e; exact ⟨by omega, h2⟩
    | none =>
      rw [e] at h
      simp only [] at h
      split at h
      case isTrue hp => simp at h; subst h; exact ⟨by omega, hp, fun j hj => rowTo_none e j hj⟩
      case isFalse => cases h
where
  rowTo_none {l : List Sb} {n : Nat} : ∀ {k : Nat}, rowTo' l n k = none → ∀ j, j < k → freeRow l j n = false
  | 0, _, j, hj => by omega
  | k + 1, h, j, hj => by
    unfold rowTo' at h
    cases e : rowTo' l n k with
    | some i => rw [e] at h; cases h
    | none =>
      rw [e] at h
      simp only [] at h
      split at h
      case isTrue => cases h
      case isFalse hp =>
        rcases Nat.lt_succ_iff_lt_or_eq.1 hj with h1 | rfl
        · exact rowTo_none e j h1
        · simpa using hp
theorem rowTo_no {l : List Sb} {n k : Nat} (h : rowTo' l n k = none) : ∀ j, j < k → freeRow l j n = false := rowTo_some.rowTo_none h
theorem freeRow_iff {l : List Sb} {a n : Nat} : freeRow l a n = true ↔ a + n ≤ l.length ∧ ∀ j, j < n → isFree (l.getD (a + j) Sb.none) = true := by
  simp only [freeRow, Bool.and_eq_true, decide_eq_true_eq, List.all_eq_true, List.mem_range]
theorem isRow_free {l : List Sb} {a n : Nat} (hn : 1 ≤ n) : Ma.isRow (thoseTo isFree l l.length) a n = freeRow l a n := by
  rw [Bool.eq_iff_iff, Ma.isRow_iff, freeRow_iff]
  constructor
  · intro h
    have h1 := h (n - 1) (by omega)
    rw [testBit_thoseTo] at h1
    simp only [Bool.and_eq_true, decide_eq_true_eq] at h1
    refine ⟨by omega, fun j hj => ?_⟩
    have h2 := h j hj
    rw [testBit_thoseTo, Bool.and_eq_true] at h2
    exact h2.2
  · rintro ⟨h1, h2⟩ j hj
    rw [testBit_thoseTo, h2 j hj]
    simp; omega
theorem getD_of {l : List Sb} {i : Nat} {s : Sb} (h : l[i]? = some s) : l.getD i Sb.none = s := by rw [List.getD_eq_getElem?_getD, h]; rfl
theorem at_of {l : List Sb} {i : Nat} (h : i < l.length) : l[i]? = some (l.getD i Sb.none) := by rw [List.getD_eq_getElem?_getD, List.getElem?_eq_getElem h]; rfl
theorem runP_len (l : List Sb) (a n : Nat) : ∀ k, (runP l a n k).length = l.length
  | 0 => by simp [runP]
  | k + 1 => by simp [runP, runP_len l a n k]
theorem clearP_len (l : List Sb) (a : Nat) : ∀ k, (clearP l a k).length = l.length
  | 0 => rfl
  | k + 1 => by simp [clearP, clearP_len l a k]
theorem runP_ok {l : List Sb} (h : OkL l) (a : Nat) {n : Nat} (hn : n < 4294967296) : ∀ k, OkL (runP l a n k)
  | 0 => h.set ⟨by simp, hn, by simp⟩
  | k + 1 => (runP_ok h a hn k).set ⟨by decide, by decide, by decide⟩
theorem clearP_ok {l : List Sb} (h : OkL l) (a : Nat) : ∀ k, OkL (clearP l a k)
  | 0 => h
  | k + 1 => (clearP_ok h a k).set ok_none
theorem app_zero (cap : Nat → Nat) (batch : Nat) (l : List Sb) (op : Nat × Nat) (h : 1099511627776 ≤ op.1) : appP cap batch l op = (l, (0, 0)) := by simp [appP, h]
/-- Whatever is asked: as many superblocks, and they fit their words. -/
theorem app_good {cap : Nat → Nat} {batch : Nat} {l : List Sb} (op : Nat × Nat) (h : OkL l) (h2 : op.2 < 18446744073709551616) (hc : ∀ c, cap c ≤ 64) : (appP cap batch l op).1.length = l.length ∧ OkL (appP cap batch l op).1 := by
  unfold appP
  split
  · exact ⟨rfl, h⟩
  case isFalse h0 =>
  have h0 : op.1 / 256 < 4294967296 := by omega
  split
  · unfold refillP
    split
    · exact ⟨rfl, h⟩
    · split
      case h_1 i m e =>
        refine ⟨by simp, h.set ⟨by simp, h0, Ma.andNotN_lt _ ?_⟩⟩
        unfold srcP at e
        split at e
        case h_1 j ej =>
          simp at e
          obtain ⟨rfl, rfl⟩ := e
          obtain ⟨h3, _⟩ := firstTo_some ej
          exact (h.at (at_of h3)).2.2
        case h_2 =>
          split at e
          · simp at e; rw [← e.2]; exact Ma.lowN_lt (hc _)
          · cases e
      · exact ⟨rfl, h⟩
  · split
    · unfold flushP
      split
      case h_1 s e =>
        split
        case isTrue hq =>
          refine ⟨by simp, h.set ?_⟩
          have hs := h.at e
          split
          · exact ok_none
          · exact ⟨by simp, hs.2.1, Ma.or_lt hs.2.2 h2⟩
        · exact ⟨rfl, h⟩
      · exact ⟨rfl, h⟩
    · split
      · unfold takeP
        split
        · exact ⟨rfl, h⟩
        · split
          · exact ⟨runP_len _ _ _ _, runP_ok h _ h0 _⟩
          · exact ⟨rfl, h⟩
      · split
        · unfold giveP
          split
          · split
            · exact ⟨clearP_len _ _ _, clearP_ok h _ _⟩
            · exact ⟨rfl, h⟩
          · exact ⟨rfl, h⟩
        · exact ⟨rfl, h⟩
end Go.Proofs.YtkogeeaoppkhkaaDoor
