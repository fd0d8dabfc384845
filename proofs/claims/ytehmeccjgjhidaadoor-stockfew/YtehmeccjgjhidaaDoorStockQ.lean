/-
  Fill: blocks of a superblock come on top, the least one last.
-/
import Derived.Test.YtehmeccjgjhidaaDoorStockP
namespace Go.Proofs.YtehmeccjgjhidaaDoor
open Go.RowKit Go.Maps Go.Sort Go.Shelf
attribute [local go_sem] Oper.semAt_some

/-- All of some blocks come on top, as far as Push takes them. -/
def fillL (S : Int) (len : Nat) (f : Nat → Int) (k : Nat) (l : List (Int × Int)) (xs : List (Int × Int)) : List (Int × Int) := xs.foldl (pushL S len f k) l
theorem fillL_app (S : Int) (len : Nat) (f : Nat → Int) (k : Nat) (l : List (Int × Int)) (xs : List (Int × Int)) (x : Int × Int) : fillL S len f k l (xs ++ [x]) = pushL S len f k (fillL S len f k l xs) x := by simp [fillL]
/-- The blocks of a round. -/
def bksOf (s : Int) (ys : List (Nat × Nat)) : List (Int × Int) := ys.map fun y => (s, ((y.2 % 64 : Nat) : Int))
theorem bksOf_app (s : Int) (ys : List (Nat × Nat)) (y : Nat × Nat) : bksOf s (ys ++ [y]) = bksOf s ys ++ [(s, ((y.2 % 64 : Nat) : Int))] := by simp [bksOf]
/-- What an int row of the program's own is. -/
theorem int_row {w : World} {B : Nat} {v : Value} {l : List Nat} (h : w.ownsRow B 3 1 v l.length (ints l)) : ∃ ad cap lb, v = .slice ad l.length cap ∧ (lb < w.heap.size ∨ lb = 0) ∧ (0 < l.length → ad = some ⟨lb, 0, none⟩ ∧ B ≤ lb ∧ ∃ cur, w.heap[lb]? = some (.cells cur 3 (0, 0)) ∧ ∀ j, j < l.length → cur[j]? = some (.int .i64 ((l.getD j 0 : Nat) : Int))) := by
  rcases h.2 with ⟨h1, h2⟩ | ⟨b, cap, cur, h1, h0, h3, h4, h5, h6, h7⟩
  · exact ⟨none, 0, 0, by rw [h1, h2], .inr rfl, fun h => by omega⟩
  · refine ⟨_, cap, b, h1, .inl (heap_lt h3), fun _ => ⟨rfl, h0, cur, h3, fun j hj => ?_⟩⟩
    rw [Nat.mul_one] at h7
    have e : (cur.toList.take l.length)[j]? = (ints l)[j]? := by rw [h7]
    rw [List.getElem?_take, if_pos hj] at e
    rw [Array.getElem?_toList] at e
    rw [e]
    simp [ints, List.getD_eq_getElem?_getD, hj]
theorem kpQ_t {Q lb : Nat} {A B C : World} (h : KpQ Q lb A B) (k : KpQ Q lb B C) : KpQ Q lb A C := ⟨k.1.trans h.1, k.2.trans h.2⟩
end Go.Proofs.YtehmeccjgjhidaaDoor
