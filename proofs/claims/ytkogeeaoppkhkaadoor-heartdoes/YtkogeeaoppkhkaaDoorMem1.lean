/-
  A memory of words as it lies in the heap; contracts of Len, Ops, Faults, has, begin.
-/
import Derived.Test.YtkogeeaoppkhkaaDoorProg
import Derived.WalkKit
import Derived.WalkSpells
import Derived.Lib.Hide
namespace Go.Proofs.YtkogeeaoppkhkaaDoor
open Go.RowKit

/-- What a memory is: its words, how many accesses and faults there were, and the last access. -/
structure MSt where
  ws : List Nat
  ops : Nat
  faults : Nat
  kind : Int
  at_ : Int

def wordsOf (ws : List Nat) : Array Value := (ws.map fun x : Nat => Value.int .u64 (x : Int)).toArray

/-- Nothing but blocks g and h has turned, of what was there. -/
structure Else (g h : Nat) (w w' : World) : Prop where
  os : w'.os = w.os
  tape : w'.tape = w.tape
  output : w'.output = w.output
  size : w.heap.size ≤ w'.heap.size
  block : ∀ k, k < w.heap.size → k ≠ g → k ≠ h → w'.heap[k]? = w.heap[k]?

theorem Else.refl (g h : Nat) (w : World) : Else g h w w := ⟨rfl, rfl, rfl, Nat.le_refl _, fun _ _ _ _ => rfl⟩
theorem Else.trans {g h : Nat} {a b c : World} (x : Else g h a b) (y : Else g h b c) : Else g h a c :=
  ⟨y.os.trans x.os, y.tape.trans x.tape, y.output.trans x.output, Nat.le_trans x.size y.size, fun k h1 h2 h3 => (y.block k (Nat.lt_of_lt_of_le h1 x.size) h2 h3).trans (x.block k h1 h2 h3)⟩
theorem Else.below {g h B : Nat} {w w' : World} (x : Else g h w w') (hg : B ≤ g) (hh : B ≤ h) (hB : B ≤ w.heap.size) : Below B w w' :=
  ⟨x.os, x.tape, x.output, x.size, fun k hk => x.block k (by omega) (by omega) (by omega)⟩
theorem Else.of_below {g h : Nat} {w w' : World} (x : Below w.heap.size w w') : Else g h w w' := ⟨x.os, x.tape, x.output, x.size, fun k hk _ _ => x.block k hk⟩

theorem heap_lt {w : World} {g : Nat} {o : Obj} (h : w.heap[g]? = some o) : g < w.heap.size := (Array.getElem?_eq_some_iff.1 h).1
theorem cell_of {w : World} {g j : Nat} {a : Array Value} {t : TypeId} {r : Nat × Nat} (h : w.heap[g]? = some (.cells a t r)) : w.cell? ⟨g, j, none⟩ = a[j]? := by
  simp [World.cell?, h]
theorem frozen_of {w : World} {g j : Nat} {a : Array Value} {t : TypeId} (h : w.heap[g]? = some (.cells a t (0, 0))) : w.frozen? ⟨g, j, none⟩ = false := by
  simp [World.frozen?, h]
theorem set_of {w : World} {g j : Nat} {a : Array Value} {t : TypeId} (h : w.heap[g]? = some (.cells a t (0, 0))) (v : Value) : (w.setCell ⟨g, j, none⟩ v).heap[g]? = some (.cells (a.setIfInBounds j v) t (0, 0)) := by
  have := heap_lt h
  simp [World.setCell, Array.getElem?_modify, h]
theorem set_other {w : World} {g j k : Nat} (hk : k ≠ g) (v : Value) : (w.setCell ⟨g, j, none⟩ v).heap[k]? = w.heap[k]? := Below.heap_setCell _ _ _ _ hk
theorem Else.set {g h b j : Nat} {a w : World} (x : Else g h a w) (hb : b = g ∨ b = h) (v : Value) : Else g h a (w.setCell ⟨b, j, none⟩ v) :=
  x.trans ⟨rfl, rfl, rfl, by simp [World.setCell], fun k _ h2 h3 => set_other (by rcases hb with rfl | rfl <;> assumption) v⟩

def inM (s : MSt) (a : Int) : Bool := decide (0 ≤ a) && decide (a < s.ws.length)
/-- The memory behind the beginning of an access. -/
def MSt.begun (s : MSt) (k a : Int) : MSt := { s with ops := s.ops + 1, faults := if inM s a then s.faults else s.faults + 1, kind := k, at_ := a }

/-- ... and ahead of its look whether there is such a word. -/
def MSt.told (s : MSt) (k a : Int) : MSt := { s with ops := s.ops + 1, kind := k, at_ := a }
theorem Else.told {w : World} {g h : Nat} (x y z : Value) : Else g h w (((w.setCell ⟨g, 1, none⟩ x).setCell ⟨g, 3, none⟩ y).setCell ⟨g, 4, none⟩ z) :=
  (((Else.refl g h w).set (.inl rfl) _).set (.inl rfl) _).set (.inl rfl) _
theorem begun_yes {s : MSt} {k a : Int} (h : inM s a = true) : s.begun k a = s.told k a := by simp [MSt.begun, MSt.told, h]
theorem begun_no {s : MSt} {k a : Int} (h : inM s a = false) : s.begun k a = { s.told k a with faults := s.faults + 1 } := by simp [MSt.begun, MSt.told, h]

end Go.Proofs.YtkogeeaoppkhkaaDoor
