/-
  Two rows of the same blocks; a Stock and the piles beside it at their beginning.
-/
import Derived.Test.YtehmeccjgjhidaaDoorStockSp
import Derived.Test.YtehmeccjgjhidaaDoorRowSt
import Derived.Test.YtehmeccjgjhidaaDoorRowBk
namespace Go.Proofs.YtehmeccjgjhidaaDoor
open Go.RowKit Go.Maps Go.Sort
attribute [local go_sem] Oper.semAt_some

theorem made_rows (n : Nat) : madeCells #[.slice none 0 0] n = ((List.range n).map fun _ => (Value.slice none 0 0)).toArray := by
  apply Array.ext'
  simp [madeCells, Nat.mod_one]
/-- The beginning. -/
theorem pr_start {w : World} {A : Nat → Prop} {sb clb pb qb : Nat} {W S B T : Int} {len : Nat} {f : Nat → Int} {M : Nat → Nat} (h : Stk w sb clb pb W S B T len f 0 (fun _ => []) (fun _ => .slice none 0 0) M) (hq : w.heap[qb]? = some (.cells ((List.range len).map fun _ => (Value.slice none 0 0)).toArray 25 (0, 0)))
    (a0 : ∀ b, A b → b < w.heap.size) (a1 : A sb ∧ A clb ∧ A pb ∧ A qb) (a2 : ∀ k, k < len → A (M k)) : Pr w A sb clb pb qb W S B T len f 0 (fun _ => []) (fun _ => []) (fun _ => .slice none 0 0) M (fun _ => .slice none 0 0) :=
  ⟨h, hq, fun _ _ => ORow.nil w, fun _ _ => GoodP.nil, a0, a1, a2, fun _ _ _ e => (by cases e), fun _ _ _ e => (by cases e), fun _ _ _ _ _ e => (by cases e)⟩
theorem infoRow : (Tryd.prog.info? 25).map (fun i => (i.zero, i.size, i.bytes)) = some (some (.slice none 0 0), 1, 24) := by kernel_rfl
end Go.Proofs.YtehmeccjgjhidaaDoor
