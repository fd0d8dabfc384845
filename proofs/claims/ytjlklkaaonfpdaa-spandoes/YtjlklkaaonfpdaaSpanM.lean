/-
  Intervals that lie apart, rising: what is found, shared, put and dropped (no program in it).
-/
import Derived.Test.YtjlklkaaonfpdaaSpan2
namespace Go.Proofs.Ytjlklkaaonfpdaa
open Go.RowKit

theorem Good.nil : Good [] := ⟨fun _ h => (by cases h), List.Pairwise.nil⟩
theorem Good.tail {y : Iv} {t : List Iv} (h : Good (y :: t)) : Good t := ⟨fun x hx => h.ok x (List.mem_cons_of_mem _ hx), (List.pairwise_cons.1 h.up).2⟩
theorem Good.head {y : Iv} {t : List Iv} (h : Good (y :: t)) : ∀ x ∈ t, y.1 + y.2 ≤ x.1 := (List.pairwise_cons.1 h.up).1

def getO (l : List Iv) (a : Int) : Option Iv := l.find? fun y => y.1 == a
def shB (x y : Iv) : Bool := decide (y.1 - x.1 < x.2) && decide (x.1 < y.1 + y.2)
/-- Does one share an address with some? -/
def overB (l : List Iv) (x : Iv) : Bool := decide (1 ≤ x.2) && l.any (shB x)
def insL (x : Iv) : List Iv → List Iv
  | [] => [x]
  | y :: t => if y.1 + y.2 ≤ x.1 then y :: insL x t else x :: y :: t
def dropL (l : List Iv) (a : Int) : List Iv := l.filter fun y => y.1 != a
def mayI (x : Iv) : Bool := decide (0 ≤ x.1) && decide (x.1 ≤ 1099511627776) && decide (1 ≤ x.2) && decide (x.2 ≤ 1099511627776)
def putB (l : List Iv) (x : Iv) : Bool := mayI x && !overB l x
def putL (l : List Iv) (x : Iv) : List Iv := if putB l x then insL x l else l

theorem endN_cons (y : Iv) (t : List Iv) (a : Int) : endN (y :: t) a = endN t a + if a < y.1 + y.2 then 0 else 1 := by
  unfold endN; rw [List.countP_cons]; by_cases h : a < y.1 + y.2 <;> simp [h]
theorem begN_cons (y : Iv) (t : List Iv) (a : Int) : begN (y :: t) a = begN t a + if a ≤ y.1 then 0 else 1 := by
  unfold begN; rw [List.countP_cons]; by_cases h : a ≤ y.1 <;> simp [h]
theorem endN_le (l : List Iv) (a : Int) : endN l a ≤ l.length := List.countP_le_length
theorem begN_le (l : List Iv) (a : Int) : begN l a ≤ l.length := List.countP_le_length
theorem endN_zero {l : List Iv} {a : Int} (h : ∀ x ∈ l, a < x.1 + x.2) : endN l a = 0 := by
  unfold endN; rw [List.countP_eq_zero]; intro x hx; simpa using h x hx
theorem begN_zero {l : List Iv} {a : Int} (h : ∀ x ∈ l, a ≤ x.1) : begN l a = 0 := by
  unfold begN; rw [List.countP_eq_zero]; intro x hx; simpa using h x hx
theorem Good.end_zero {y : Iv} {t : List Iv} {a : Int} (g : Good (y :: t)) (h : a < y.1 + y.2) : endN t a = 0 :=
  endN_zero fun x hx => by have h1 := g.head x hx; have h2 := g.tail.ok x hx; omega
theorem Good.beg_zero {y : Iv} {t : List Iv} {a : Int} (g : Good (y :: t)) (h : a ≤ y.1) : begN t a = 0 :=
  begN_zero fun x hx => by have h1 := g.head x hx; have h2 := g.ok y (by simp); omega

theorem get_at {l : List Iv} (g : Good l) (a : Int) : getO l a = match l[begN l a]? with | some x => if x.1 = a then some x else none | none => none := by
  induction l with
  | nil => rfl
  | cons y t ih =>
    rw [begN_cons]
    by_cases h : a ≤ y.1
    · rw [if_pos h, g.beg_zero h]
      simp only [getO, List.find?_cons, Nat.add_zero, List.getElem?_cons_zero]
      by_cases e : y.1 = a
      · simp [e]
      · rw [if_neg e]
        have : (y.1 == a) = false := by simpa using e
        rw [this]
        simp only [List.find?_eq_none]
        intro x hx
        have h1 := g.head x hx; have h2 := g.ok y (by simp)
        simp; omega
    · rw [if_neg h, List.getElem?_cons_succ, ← ih g.tail]
      have : (y.1 == a) = false := by simp; omega
      simp [getO, this]
theorem over_at {l : List Iv} (g : Good l) (x : Iv) : overB l x = (decide (1 ≤ x.2) && match l[endN l x.1]? with | some y => decide (y.1 - x.1 < x.2) | none => false) := by
  unfold overB
  by_cases hx : 1 ≤ x.2
  · simp only [hx, decide_true, Bool.true_and]
    induction l with
    | nil => rfl
    | cons y t ih =>
      rw [endN_cons]
      by_cases h : x.1 < y.1 + y.2
      · rw [if_pos h, g.end_zero h]
        simp only [List.any_cons, Nat.add_zero, List.getElem?_cons_zero, shB, h, decide_true, Bool.and_true]
        by_cases e : y.1 - x.1 < x.2
        · simp [e]
        · simp only [e, decide_false, Bool.false_or]
          rw [List.any_eq_false]
          intro z hz
          have h1 := g.head z hz; have h2 := g.ok y (by simp)
          simp only [Bool.not_eq_true]
          unfold shB; rw [decide_eq_false (by omega)]; rfl
      · rw [if_neg h, List.getElem?_cons_succ, ← ih g.tail]
        have : shB x y = false := by simp [shB]; omega
        simp [List.any_cons, this]
  · simp [hx]

theorem ins_at {l : List Iv} (g : Good l) (x : Iv) : insL x l = l.take (endN l x.1) ++ x :: l.drop (endN l x.1) := by
  induction l with
  | nil => rfl
  | cons y t ih =>
    rw [endN_cons, insL]
    by_cases h : x.1 < y.1 + y.2
    · rw [if_pos h, if_neg (by omega), g.end_zero h]; rfl
    · rw [if_neg h, if_pos (by omega), ih g.tail]; rfl
theorem drop_at {l : List Iv} (g : Good l) {a : Int} {x : Iv} (h : getO l a = some x) : dropL l a = l.take (begN l a) ++ l.drop (begN l a + 1) := by
  induction l with
  | nil => cases h
  | cons y t ih =>
    rw [begN_cons]
    by_cases e : y.1 = a
    · rw [if_pos (by omega), g.beg_zero (by omega)]
      simp only [dropL, List.filter_cons, e, bne_self_eq_false, List.take_zero, Nat.zero_add, List.drop_succ_cons, List.drop_zero, List.nil_append]
      rw [if_neg (by simp), List.filter_eq_self]
      intro z hz
      have h1 := g.head z hz; have h2 := g.ok y (by simp)
      simp; omega
    · have he : (y.1 == a) = false := by simpa using e
      have h' : getO t a = some x := by simpa [getO, List.find?_cons, he] using h
      have hy : ¬ a ≤ y.1 := fun hle => by
        have hm := List.mem_of_find?_eq_some h'
        have hp := List.find?_some h'
        have h1 := g.head x hm; have h2 := g.ok y (by simp)
        simp at hp; omega
      rw [if_neg hy]
      have hn : (y.1 != a) = true := by simpa using e
      simp only [dropL, List.filter_cons, hn, if_true]
      rw [show begN t a + 1 + 1 = (begN t a + 1) + 1 from rfl, List.take_succ_cons, List.drop_succ_cons, List.cons_append, ← ih g.tail h']
      rfl

theorem mem_ins {x z : Iv} {l : List Iv} : z ∈ insL x l ↔ z = x ∨ z ∈ l := by
  induction l with
  | nil => simp [insL]
  | cons y t ih =>
    rw [insL]
    split
    · simp only [List.mem_cons, ih]; constructor
      · rintro (h | h | h) <;> simp [h]
      · rintro (h | h | h) <;> simp [h]
    · simp
theorem perm_ins (x : Iv) (l : List Iv) : (insL x l).Perm (x :: l) := by
  induction l with
  | nil => exact List.Perm.refl _
  | cons y t ih =>
    rw [insL]
    split
    · exact (ih.cons y).trans (List.Perm.swap x y t)
    · exact List.Perm.refl _
theorem good_ins {l : List Iv} (g : Good l) {x : Iv} (h : putB l x = true) : Good (insL x l) := by
  simp only [putB, mayI, Bool.and_eq_true, decide_eq_true_eq, Bool.not_eq_true'] at h
  obtain ⟨⟨⟨⟨h1, h2⟩, h3⟩, h4⟩, h5⟩ := h
  have hno : ∀ y ∈ l, y.1 + y.2 ≤ x.1 ∨ x.1 + x.2 ≤ y.1 := fun y hy => by
    have : shB x y = false := by
      simp only [overB, h3, decide_true, Bool.true_and] at h5
      exact (Bool.eq_false_iff.2 ((List.any_eq_false.1 h5) y hy))
    simp [shB] at this
    omega
  clear h5
  induction l with
  | nil => exact ⟨fun z hz => (by simp [insL] at hz; subst hz; exact ⟨h1, h2, h3, h4⟩), by simp [insL]⟩
  | cons y t ih =>
    have hy := hno y (by simp)
    have oy := g.ok y (by simp)
    rw [insL]
    split
    · rename_i hle
      have it := ih g.tail (fun z hz => hno z (List.mem_cons_of_mem _ hz))
      refine ⟨fun z hz => ?_, List.pairwise_cons.2 ⟨fun z hz => ?_, it.up⟩⟩
      · rcases List.mem_cons.1 hz with rfl | hz
        · exact oy
        · exact it.ok z hz
      · rcases mem_ins.1 hz with rfl | hz
        · exact hle
        · exact g.head z hz
    · refine ⟨fun z hz => ?_, List.pairwise_cons.2 ⟨fun z hz => ?_, g.up⟩⟩
      · rcases List.mem_cons.1 hz with rfl | hz
        · exact ⟨h1, h2, h3, h4⟩
        · exact g.ok z hz
      · rcases List.mem_cons.1 hz with rfl | hz
        · omega
        · have := g.head z hz; omega
theorem good_drop {l : List Iv} (g : Good l) (a : Int) : Good (dropL l a) := ⟨fun x hx => g.ok x (List.mem_filter.1 hx).1, g.up.filter _⟩
theorem good_put {l : List Iv} (g : Good l) (x : Iv) : Good (putL l x) := by
  unfold putL; split
  · rename_i h; exact good_ins g h
  · exact g
theorem len_ins (x : Iv) (l : List Iv) : (insL x l).length = l.length + 1 := by simpa using (perm_ins x l).length_eq
theorem len_put (l : List Iv) (x : Iv) : (putL l x).length ≤ l.length + 1 := by
  unfold putL; split
  · rw [len_ins]; exact Nat.le_refl _
  · omega
theorem len_drop (l : List Iv) (a : Int) : (dropL l a).length ≤ l.length := List.length_filter_le _ _
/-- How many addresses there are. -/
def sumL (l : List Iv) : Int := (l.map (·.2)).sum
theorem sum_ins (x : Iv) (l : List Iv) : sumL (insL x l) = sumL l + x.2 := by
  induction l with
  | nil => simp [insL, sumL]
  | cons y t ih =>
    rw [insL]
    split
    · have e1 : sumL (y :: insL x t) = y.2 + sumL (insL x t) := by simp [sumL]
      have e2 : sumL (y :: t) = y.2 + sumL t := by simp [sumL]
      rw [e1, e2, ih]; omega
    · have e1 : sumL (x :: y :: t) = x.2 + sumL (y :: t) := by simp [sumL]
      rw [e1]; omega
theorem sum_bd {l : List Iv} (g : Good l) : 0 ≤ sumL l ∧ sumL l ≤ l.length * 1099511627776 := by
  induction l with
  | nil => exact ⟨Int.le_refl _, Int.le_refl _⟩
  | cons y t ih =>
    have h := ih g.tail
    have oy := g.ok y (by simp)
    have e : sumL (y :: t) = y.2 + sumL t := by simp [sumL]
    rw [e]; simp only [List.length_cons]; omega
theorem get_some {l : List Iv} {a : Int} {x : Iv} (h : getO l a = some x) : x ∈ l ∧ x.1 = a := ⟨List.mem_of_find?_eq_some h, by simpa using List.find?_some h⟩
theorem get_none {l : List Iv} {a : Int} (h : getO l a = none) : ∀ x ∈ l, x.1 ≠ a := fun x hx => by have := List.find?_eq_none.1 h x hx; simpa using this
theorem get_mem {l : List Iv} (g : Good l) {x : Iv} (h : x ∈ l) : getO l x.1 = some x := by
  induction l with
  | nil => cases h
  | cons y t ih =>
    rcases List.mem_cons.1 h with rfl | h
    · simp [getO]
    · have h1 := g.head x h; have h2 := g.ok y (by simp)
      have : (y.1 == x.1) = false := by simp; omega
      simpa [getO, List.find?_cons, this] using ih g.tail h
theorem drop_none {l : List Iv} {a : Int} (h : getO l a = none) : dropL l a = l := by
  unfold dropL; rw [List.filter_eq_self]; intro x hx; simpa using get_none h x hx

end Go.Proofs.Ytjlklkaaonfpdaa
