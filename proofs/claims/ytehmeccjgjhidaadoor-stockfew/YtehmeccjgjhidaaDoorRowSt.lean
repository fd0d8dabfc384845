/-
  Lists of chandlerylaw12.Act that came in, as the walks take them (printed by mkrow.py).
-/
import Derived.Test.YtehmeccjgjhidaaDoorConfM
import Derived.Lib.SmallJoins
import Derived.Deep.Slices
import Derived.Deep.Strs
namespace Go.Proofs.YtehmeccjgjhidaaDoor
open Go.Joins Go.ChangeShapes Go.WideShapes Go.RowKit Go.Deep

def RowSt (w : World) (a : Option Addr) (len : Nat) (Z0 Z1 Z2 Z3 Z4 : Nat → Int) : Prop :=
  (len ≤ maxLen ∧ ∀ j, j < len → (Lit.int .i64 (Z0 j)).wf = true ∧ (Lit.int .i64 (Z1 j)).wf = true ∧ (Lit.int .i64 (Z2 j)).wf = true ∧ (Lit.int .i64 (Z3 j)).wf = true ∧ (Lit.int .u64 (Z4 j)).wf = true) ∧ (0 < len → ∃ b off, a = some ⟨b, off, none⟩ ∧ b < w.heap.size ∧ ∀ j, j < len → w.cell? ⟨b, off + j * 5, none⟩ = some (.int .i64 (Z0 j)) ∧ w.cell? ⟨b, off + j * 5 + 1, none⟩ = some (.int .i64 (Z1 j)) ∧ w.cell? ⟨b, off + j * 5 + 2, none⟩ = some (.int .i64 (Z2 j)) ∧ w.cell? ⟨b, off + j * 5 + 3, none⟩ = some (.int .i64 (Z3 j)) ∧ w.cell? ⟨b, off + j * 5 + 4, none⟩ = some (.int .u64 (Z4 j)))
theorem RowSt.next {w w' : World} {a : Option Addr} {len : Nat} {Z0 Z1 Z2 Z3 Z4 : Nat → Int} (h : RowSt w a len Z0 Z1 Z2 Z3 Z4) (hb : Below w.heap.size w w') : RowSt w' a len Z0 Z1 Z2 Z3 Z4 :=
  ⟨h.1, fun h0 => by
    obtain ⟨b, off, e, hl, hc⟩ := h.2 h0
    refine ⟨b, off, e, Nat.lt_of_lt_of_le hl hb.size, fun j hj => ?_⟩
    obtain ⟨c0, c1, c2, c3, c4⟩ := hc j hj
    exact ⟨(hb.cell (p := ⟨b, off + j * 5, none⟩) hl).trans c0, (hb.cell (p := ⟨b, off + j * 5 + 1, none⟩) hl).trans c1, (hb.cell (p := ⟨b, off + j * 5 + 2, none⟩) hl).trans c2, (hb.cell (p := ⟨b, off + j * 5 + 3, none⟩) hl).trans c3, (hb.cell (p := ⟨b, off + j * 5 + 4, none⟩) hl).trans c4⟩⟩
theorem RowSt.at {w : World} {a : Option Addr} {len j : Nat} {Z0 Z1 Z2 Z3 Z4 : Nat → Int} (h : RowSt w a len Z0 Z1 Z2 Z3 Z4) (hj : j < len) : ∃ b off, a = some ⟨b, off, none⟩ ∧ b < w.heap.size ∧ w.cell? ⟨b, off + j * 5, none⟩ = some (.int .i64 (Z0 j)) ∧ w.cell? ⟨b, off + j * 5 + 1, none⟩ = some (.int .i64 (Z1 j)) ∧ w.cell? ⟨b, off + j * 5 + 2, none⟩ = some (.int .i64 (Z2 j)) ∧ w.cell? ⟨b, off + j * 5 + 3, none⟩ = some (.int .i64 (Z3 j)) ∧ w.cell? ⟨b, off + j * 5 + 4, none⟩ = some (.int .u64 (Z4 j)) := by
  obtain ⟨b, off, e, hl, hc⟩ := h.2 (by omega)
  exact ⟨b, off, e, hl, hc j hj⟩

section
variable {H : Type} {enc : TypeId × Value → H} {w : World} {base : Nat} {spare : Nat → Bool} {held : Bool}
end
end Go.Proofs.YtehmeccjgjhidaaDoor
