/-
  What is done to a Stock and to the piles beside it, kind by kind.
-/
import Derived.Test.YtehmeccjgjhidaaDoorStockPr
namespace Go.Proofs.YtehmeccjgjhidaaDoor
open Go.RowKit Go.Maps Go.Sort
attribute [local go_sem] Oper.semAt_some

section
variable {w w' : World} {N : Nat} {W S B T : Int} {cl : Value} {K C s i : Int} {m : Nat}
end
open Classical in
/-- Of which superblock there are most. -/
noncomputable def superI (l : List (Int × Int)) : Int := if h : ∃ s, Full l s then h.choose else 0
theorem superI_eq {l : List (Int × Int)} {s : Int} (h : Full l s) : superI l = s := by
  have e : ∃ s, Full l s := ⟨s, h⟩
  unfold superI
  rw [dif_pos e]
  exact full_eq e.choose_spec h
noncomputable def spL (B : Int) (l : List (Int × Int)) : List (Int × Int) := if 2 * B < (l.length : Int) then stays (superI l) l else l
/-- What it makes of a class's blocks. -/
noncomputable def doL (S B : Int) (len : Nat) (f : Nat → Int) (k : Nat) (K s i : Int) (m : Nat) (l : List (Int × Int)) : List (Int × Int) :=
  if K = 0 then pushL S len f k l (s, i) else if K = 1 then l.dropLast else if K = 2 then fillL S len f k l (bksD s m 0) else if K = 3 then spL B l else l
theorem upd2 (P : Nat → List (Int × Int)) (k : Nat) (l l' : List (Int × Int)) : updP (updP P k l) k l' = updP P k l' := by
  funext j; unfold updP; split <;> rfl
/-- How it leaves both. -/
def DoR (w : World) (A : Nat → Prop) (sb clb pb qb : Nat) (W S B T : Int) (len : Nat) (f : Nat → Int) (n : Nat) (P : Nat → List (Int × Int)) (M : Nat → Nat) (k : Nat) (l : List (Int × Int)) (w' : World) : Prop :=
  ∃ n' L' Q', n' ≤ n + 64 ∧ Pr w' (ext A w.heap.size w') sb clb pb qb W S B T len f n' (updP P k l) (updP P k l) L' M Q' ∧ Kp A w.heap.size w w'
section
variable (W S B T : Int) (ad : Option Addr) (len cap : Nat) (f : Nat → Int) (sb clb pb qb n : Nat) (P : Nat → List (Int × Int)) (L : Nat → Value) (M : Nat → Nat) (Q : Nat → Value) (A : Nat → Prop)
end
end Go.Proofs.YtehmeccjgjhidaaDoor
