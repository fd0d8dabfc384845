/-
  Runs of superblocks, one behind the other; some given back.
-/
import Derived.Test.YtkogeeaoppkhkaaDoorHeartP
namespace Go.Proofs.YtkogeeaoppkhkaaDoor

theorem rowTo_eq {l : List Sb} {n k a : Nat} (ha : a < k) (h : freeRow l a n = true) (hno : ∀ j, j < a → freeRow l j n = false) : rowTo' l n k = some a := by
  cases e : rowTo' l n k with
  | none => rw [rowTo_no e a ha] at h; cases h
  | some b =>
    obtain ⟨h1, h2, h3⟩ := rowTo_some e
    rcases Nat.lt_trichotomy a b with h4 | h4 | h4
    · rw [h3 a h4] at h; cases h
    · rw [h4]
    · rw [hno b h4] at h2; cases h2
theorem rowTo_eq_none {l : List Sb} {n k : Nat} (h : ∀ j, j < k → freeRow l j n = false) : rowTo' l n k = none := by
  cases e : rowTo' l n k with
  | none => rfl
  | some b => obtain ⟨h1, h2, _⟩ := rowTo_some e; rw [h b h1] at h2; cases h2
theorem set_at {l : List Sb} {i j : Nat} {s : Sb} : (l.set i s)[j]? = if j = i ∧ i < l.length then some s else l[j]? := by
  rw [List.getElem?_set]
  by_cases h : i = j
  · subst h
    by_cases h2 : i < l.length
    · simp [h2]
    · simp [h2]
  · have h' : ¬ j = i := fun e => h e.symm
    simp [h, h']
theorem runP_at (l : List Sb) (a n : Nat) : ∀ k j, (runP l a n k)[j]? = if j < l.length ∧ j = a then some ⟨2, n, 0⟩ else if j < l.length ∧ a < j ∧ j ≤ a + k then some ⟨3, 0, 0⟩ else l[j]?
  | 0, j => by
    unfold runP
    rw [set_at]
    by_cases h : j = a
    · subst h
      by_cases h2 : j < l.length
      · rw [if_pos ⟨rfl, h2⟩, if_pos ⟨h2, rfl⟩]
      · rw [if_neg (by omega), if_neg (by omega), if_neg (by omega)]
    · rw [if_neg (fun e => h e.1), if_neg (fun e => h e.2), if_neg (by omega)]
  | k + 1, j => by
    unfold runP
    rw [set_at, runP_at l a n k j, runP_len]
    by_cases h : j = a + (k + 1)
    · subst h
      by_cases h2 : a + (k + 1) < l.length
      · rw [if_pos ⟨rfl, h2⟩, if_neg (by omega), if_pos (by omega)]
      · rw [if_neg (by omega), if_neg (by omega), if_neg (by omega), if_neg (by omega), if_neg (by omega)]
    · rw [if_neg (fun h3 => h h3.1)]
      by_cases h1 : j < l.length ∧ j = a
      · rw [if_pos h1, if_pos h1]
      · rw [if_neg h1, if_neg h1]
        by_cases h2 : j < l.length ∧ a < j ∧ j ≤ a + k
        · rw [if_pos h2, if_pos (by omega)]
        · rw [if_neg h2, if_neg (by omega)]
theorem clearP_at (l : List Sb) (a : Nat) : ∀ k j, (clearP l a k)[j]? = if j < l.length ∧ a ≤ j ∧ j < a + k then some Sb.none else l[j]?
  | 0, j => by unfold clearP; rw [if_neg (by omega)]
  | k + 1, j => by
    unfold clearP
    rw [set_at, clearP_at l a k j, clearP_len]
    by_cases h : j = a + k
    · subst h
      by_cases h2 : a + k < l.length
      · rw [if_pos ⟨rfl, h2⟩, if_pos (by omega)]
      · rw [if_neg (by omega), if_neg (by omega), if_neg (by omega)]
    · rw [if_neg (fun h3 => h h3.1)]
      by_cases h2 : j < l.length ∧ a ≤ j ∧ j < a + k
      · rw [if_pos h2, if_pos (by omega)]
      · rw [if_neg h2, if_neg (by omega)]
/-- A run of n, or as many free ones, if it was given back. -/
def blk (x : Nat × Bool) : List Sb := if x.2 then List.replicate x.1 Sb.none else ⟨2, x.1, 0⟩ :: List.replicate (x.1 - 1) ⟨3, 0, 0⟩
theorem blk_len {x : Nat × Bool} (h : 1 ≤ x.1) : (blk x).length = x.1 := by
  unfold blk; split <;> simp; omega
def sumR : List (Nat × Bool) → Nat
  | [] => 0
  | x :: R => x.1 + sumR R
theorem sumR_app (R Q : List (Nat × Bool)) : sumR (R ++ Q) = sumR R + sumR Q := by
  induction R with
  | nil => simp [sumR]
  | cons x R ih => simp only [List.cons_append, sumR, ih]; omega
def layR (R : List (Nat × Bool)) (S : Nat) : List Sb := R.flatMap blk ++ List.replicate (S - sumR R) Sb.none
theorem flatR_len (R : List (Nat × Bool)) (h : ∀ x ∈ R, 1 ≤ x.1) : (R.flatMap blk).length = sumR R := by
  induction R with
  | nil => rfl
  | cons x R ih => rw [List.flatMap_cons, List.length_append, blk_len (h x (by simp)), ih (fun y hy => h y (by simp [hy])), sumR]
theorem layR_len {R : List (Nat × Bool)} {S : Nat} (h : ∀ x ∈ R, 1 ≤ x.1) (hs : sumR R ≤ S) : (layR R S).length = S := by
  rw [layR, List.length_append, flatR_len R h, List.length_replicate]; omega
theorem run_app (P Q : List Sb) (n m : Nat) (hn : 1 ≤ n) (hm : n ≤ m) : runP (P ++ (List.replicate m Sb.none ++ Q)) P.length n (n - 1) = P ++ (blk (n, false) ++ (List.replicate (m - n) Sb.none ++ Q)) := by
  apply List.ext_getElem?
  intro j
  have bl : (blk (n, false)).length = n := blk_len hn
  rw [runP_at]
  simp only [List.length_append, List.length_replicate]
  by_cases h1 : j < P.length
  · rw [if_neg (by omega), if_neg (by omega), List.getElem?_append_left h1, List.getElem?_append_left h1]
  · rw [List.getElem?_append_right (by omega), List.getElem?_append_right (l₁ := P) (by omega)]
    by_cases h2 : j = P.length
    · subst h2
      rw [if_pos (by omega), List.getElem?_append_left (by omega)]
      simp [blk]
    · rw [if_neg (by omega)]
      by_cases h3 : j < P.length + n
      · rw [if_pos (by omega), List.getElem?_append_left (by omega)]
        obtain ⟨q, hq⟩ : ∃ q, j - P.length = q + 1 := ⟨j - P.length - 1, by omega⟩
        rw [hq, blk, if_neg (by simp), List.getElem?_cons_succ, List.getElem?_replicate, if_pos (by simp only; omega)]
      · rw [if_neg (by omega), List.getElem?_append_right (l₁ := blk (n, false)) (by omega), bl]
        by_cases h4 : j < P.length + m
        · rw [List.getElem?_append_left (by simp; omega), List.getElem?_append_left (by simp; omega)]
          rw [List.getElem?_replicate, List.getElem?_replicate, if_pos (by omega), if_pos (by omega)]
        · rw [List.getElem?_append_right (by simp; omega), List.getElem?_append_right (by simp; omega)]
          simp only [List.length_replicate]
          congr 1
          omega
theorem clear_app (P Q : List Sb) (n : Nat) (hn : 1 ≤ n) : clearP (P ++ (blk (n, false) ++ Q)) P.length n = P ++ (blk (n, true) ++ Q) := by
  apply List.ext_getElem?
  intro j
  have bl : (blk (n, false)).length = n := blk_len hn
  have bt : (blk (n, true)).length = n := blk_len hn
  rw [clearP_at]
  simp only [List.length_append]
  by_cases h1 : j < P.length
  · rw [if_neg (by omega), List.getElem?_append_left h1, List.getElem?_append_left h1]
  · rw [List.getElem?_append_right (l₁ := P) (by omega), List.getElem?_append_right (l₁ := P) (by omega)]
    by_cases h3 : j < P.length + n
    · rw [if_pos (by omega), List.getElem?_append_left (by omega), blk, if_pos rfl, List.getElem?_replicate, if_pos (by simp only; omega)]
    · rw [if_neg (by omega), List.getElem?_append_right (by omega), List.getElem?_append_right (by omega), bl, bt]
theorem flatR_busy {R : List (Nat × Bool)} (h : ∀ x ∈ R, x.2 = false) {s : Sb} (hs : s ∈ R.flatMap blk) : isFree s = false := by
  obtain ⟨x, hx, hs⟩ := List.mem_flatMap.1 hs
  unfold blk at hs
  rw [h x hx] at hs
  simp at hs
  rcases hs with rfl | ⟨_, rfl⟩ <;> rfl
theorem lay_free {R : List (Nat × Bool)} {S : Nat} (h1 : ∀ x ∈ R, 1 ≤ x.1) {j : Nat} (h2 : sumR R ≤ j) : (layR R S).getD j Sb.none = Sb.none := by
  have fl := flatR_len R h1
  rw [List.getD_eq_getElem?_getD, layR, List.getElem?_append_right (by omega), List.getElem?_replicate]
  split <;> rfl
theorem lay_busy {R : List (Nat × Bool)} {S : Nat} (h : ∀ x ∈ R, 1 ≤ x.1 ∧ x.2 = false) {j : Nat} (hj : j < sumR R) : isFree ((layR R S).getD j Sb.none) = false := by
  have fl := flatR_len R (fun x hx => (h x hx).1)
  have hj' : j < (R.flatMap blk).length := by omega
  rw [List.getD_eq_getElem?_getD, layR, List.getElem?_append_left hj', List.getElem?_eq_getElem hj']
  exact flatR_busy (fun x hx => (h x hx).2) (List.getElem_mem _)
/-- Take: behind all others, if there is room. -/
theorem take_lay {R : List (Nat × Bool)} {S n : Nat} (h : ∀ x ∈ R, 1 ≤ x.1 ∧ x.2 = false) (hs : sumR R ≤ S) (hn : 1 ≤ n) :
    takeP (layR R S) n = if sumR R + n ≤ S then (layR (R ++ [(n, false)]) S, (sumR R + 1, 0)) else (layR R S, (0, 0)) := by
  have h1 : ∀ x ∈ R, 1 ≤ x.1 := fun x hx => (h x hx).1
  have ll := layR_len h1 hs
  have fl := flatR_len R h1
  have hno : ∀ j, j < sumR R → freeRow (layR R S) j n = false := fun j hj => by
    rw [Bool.eq_false_iff]
    intro hr
    have := (freeRow_iff.1 hr).2 0 (by omega)
    rw [Nat.add_zero, lay_busy h hj] at this
    cases this
  unfold takeP
  rw [if_neg (by omega), ll]
  by_cases hq : sumR R + n ≤ S
  · rw [if_pos hq, rowTo_eq (a := sumR R) (by omega) (freeRow_iff.2 ⟨by omega, fun j hj => by rw [lay_free h1 (by omega)]; rfl⟩) hno]
    simp only
    have e := run_app (R.flatMap blk) [] n (S - sumR R) hn (by omega)
    rw [fl, List.append_nil, List.append_nil] at e
    rw [show layR R S = R.flatMap blk ++ List.replicate (S - sumR R) Sb.none from rfl, e, layR, List.flatMap_append, sumR_app]
    simp [sumR, Nat.sub_sub]
  · rw [if_neg hq, rowTo_eq_none]
    intro j hj
    by_cases hj2 : j < sumR R
    · exact hno j hj2
    · rw [Bool.eq_false_iff]
      intro hr
      have := (freeRow_iff.1 hr).1
      omega
theorem lay_split (R1 R2 : List (Nat × Bool)) (x : Nat × Bool) (S : Nat) : layR (R1 ++ x :: R2) S = R1.flatMap blk ++ (blk x ++ (R2.flatMap blk ++ List.replicate (S - sumR (R1 ++ x :: R2)) Sb.none)) := by
  simp [layR, List.flatMap_append, List.flatMap_cons]
/-- Give: once. -/
theorem give_lay {R1 R2 : List (Nat × Bool)} {S n : Nat} (h : ∀ x ∈ R1 ++ (n, false) :: R2, 1 ≤ x.1) (hs : sumR (R1 ++ (n, false) :: R2) ≤ S) :
    giveP (layR (R1 ++ (n, false) :: R2) S) (sumR R1) = (layR (R1 ++ (n, true) :: R2) S, (1, 0)) := by
  have hn : 1 ≤ n := h (n, false) (by simp)
  have fl := flatR_len R1 (fun x hx => h x (by simp [hx]))
  have ll := layR_len h hs
  have hs2 : sumR (R1 ++ (n, false) :: R2) = sumR R1 + (n + sumR R2) := by rw [sumR_app]; rfl
  have hs3 : sumR (R1 ++ (n, true) :: R2) = sumR R1 + (n + sumR R2) := by rw [sumR_app]; rfl
  have at0 : (layR (R1 ++ (n, false) :: R2) S)[sumR R1]? = some ⟨2, n, 0⟩ := by
    rw [lay_split, List.getElem?_append_right (by omega), fl, Nat.sub_self, List.getElem?_append_left (by rw [blk_len hn]; exact hn)]
    simp [blk]
  unfold giveP
  rw [at0]
  simp only
  rw [if_pos (show True ∧ 0 < n from ⟨trivial, hn⟩), ll, show min n (S - sumR R1) = n from by omega]
  have e := clear_app (R1.flatMap blk) (R2.flatMap blk ++ List.replicate (S - sumR (R1 ++ (n, false) :: R2)) Sb.none) n hn
  rw [fl] at e
  rw [lay_split, e, lay_split, hs2, hs3]
theorem give_again {R1 R2 : List (Nat × Bool)} {S n : Nat} (h : ∀ x ∈ R1 ++ (n, true) :: R2, 1 ≤ x.1) :
    giveP (layR (R1 ++ (n, true) :: R2) S) (sumR R1) = (layR (R1 ++ (n, true) :: R2) S, (0, 0)) := by
  have hn : 1 ≤ n := h (n, true) (by simp)
  have fl := flatR_len R1 (fun x hx => h x (by simp [hx]))
  have at0 : (layR (R1 ++ (n, true) :: R2) S)[sumR R1]? = some Sb.none := by
    rw [lay_split, List.getElem?_append_right (by omega), fl, Nat.sub_self, List.getElem?_append_left (by rw [blk_len hn]; exact hn)]
    rw [blk, if_pos rfl, List.getElem?_replicate, if_pos (by simp only; omega)]
  unfold giveP
  rw [at0]
  rfl
theorem lay_all {R : List (Nat × Bool)} {S : Nat} (h : ∀ x ∈ R, x.2 = true) (hs : sumR R ≤ S) : layR R S = List.replicate S Sb.none := by
  have : R.flatMap blk = List.replicate (sumR R) Sb.none := by
    induction R with
    | nil => rfl
    | cons x R ih =>
      rw [List.flatMap_cons, ih (fun y hy => h y (by simp [hy])) (by simp only [sumR] at hs; omega), sumR]
      unfold blk
      rw [h x (by simp)]
      simp
  rw [layR, this, List.replicate_append_replicate]
  congr 1
  omega
/-- Where each run begins. -/
def starts : Nat → List (Nat × Bool) → List Nat
  | _, [] => []
  | a, x :: R => a :: starts (a + x.1) R
theorem starts_app (a : Nat) (R : List (Nat × Bool)) (x : Nat × Bool) : starts a (R ++ [x]) = starts a R ++ [a + sumR R] := by
  induction R generalizing a with
  | nil => simp [starts, sumR]
  | cons y R ih => simp only [List.cons_append, starts, ih, sumR, Nat.add_assoc]
theorem starts_len (a : Nat) (R : List (Nat × Bool)) : (starts a R).length = R.length := by
  induction R generalizing a with
  | nil => rfl
  | cons y R ih => simp [starts, ih]
theorem starts_at (a : Nat) (R1 R2 : List (Nat × Bool)) (x : Nat × Bool) : (starts a (R1 ++ x :: R2))[R1.length]? = some (a + sumR R1) := by
  induction R1 generalizing a with
  | nil => simp [starts, sumR]
  | cons y R ih => simp only [List.cons_append, starts, List.length_cons, List.getElem?_cons_succ, ih, sumR, Nat.add_assoc]
/-- Flags do not matter to where runs begin. -/
theorem starts_flag (a : Nat) (R1 R2 : List (Nat × Bool)) (n : Nat) (p q : Bool) : starts a (R1 ++ (n, p) :: R2) = starts a (R1 ++ (n, q) :: R2) := by
  induction R1 generalizing a with
  | nil => rfl
  | cons y R ih => simp only [List.cons_append, starts, ih]
theorem sumR_flag (R1 R2 : List (Nat × Bool)) (n : Nat) (p q : Bool) : sumR (R1 ++ (n, p) :: R2) = sumR (R1 ++ (n, q) :: R2) := by rw [sumR_app, sumR_app]; rfl
theorem len_sumR {R : List (Nat × Bool)} (h : ∀ x ∈ R, 1 ≤ x.1) : R.length ≤ sumR R := by
  induction R with
  | nil => simp
  | cons x R ih => have := ih (fun y hy => h y (by simp [hy])); have := h x (by simp); simp only [List.length_cons, sumR]; omega
end Go.Proofs.YtkogeeaoppkhkaaDoor
