/-
  The document's Fill and Of.
-/
import Derived.Test.YtehmeccjgjhidaaDoorStockY
namespace Go.Proofs.YtehmeccjgjhidaaDoor
open Go.RowKit Go.Sort
attribute [local go_sem] Oper.semAt_some

/-- The members that are no less than j, the greatest first. -/
def memD (m j : Nat) : List Nat := (((List.range 64).drop j).filter fun i => m.testBit i).reverse
theorem memD_top (m : Nat) : memD m 64 = [] := by unfold memD; rw [List.drop_of_length_le (by simp)]; rfl
theorem memD_all (m : Nat) : memD m 0 = (Ma.mem m).reverse := by simp [memD, Ma.mem]
theorem memD_step (m j : Nat) (h : j < 64) : memD m j = if m.testBit j = true then memD m (j + 1) ++ [j] else memD m (j + 1) := by
  unfold memD
  have e : (List.range 64).drop j = j :: (List.range 64).drop (j + 1) := by
    rw [List.drop_eq_getElem_cons (by simpa using h)]
    simp
  rw [e]
  by_cases hb : m.testBit j = true
  · rw [if_pos hb, List.filter_cons_of_pos (by simpa using hb), List.reverse_cons]
  · rw [if_neg hb, List.filter_cons_of_neg (by simpa using hb)]
theorem pushL_len (S : Int) (len : Nat) (f : Nat → Int) (k : Nat) (l : List (Int × Int)) (x : Int × Int) : (pushL S len f k l x).length ≤ l.length + 1 := by
  unfold pushL; split <;> simp
theorem fillL_len (S : Int) (len : Nat) (f : Nat → Int) (k : Nat) (xs : List (Int × Int)) : ∀ l, (fillL S len f k l xs).length ≤ l.length + xs.length := by
  induction xs with
  | nil => intro l; simp [fillL]
  | cons x xs ih =>
    intro l
    have := ih (pushL S len f k l x)
    have := pushL_len S len f k l x
    show (fillL S len f k (pushL S len f k l x) xs).length ≤ _
    simp
    omega
theorem memD_len (m j : Nat) : (memD m j).length ≤ 64 := by
  unfold memD
  rw [List.length_reverse]
  refine Nat.le_trans (List.length_filter_le _ _) ?_
  simp
/-- The blocks that Fill lays. -/
def bksD (s : Int) (m j : Nat) : List (Int × Int) := (memD m j).map fun i : Nat => (s, (i : Int))
section
variable (W S B T : Int) (ad : Option Addr) (len cap : Nat) (f : Nat → Int)
end
end Go.Proofs.YtehmeccjgjhidaaDoor
