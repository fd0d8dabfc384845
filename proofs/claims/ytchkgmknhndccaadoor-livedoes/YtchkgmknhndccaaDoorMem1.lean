/-
  A memory of words as it lies in the heap; contracts of Len, Ops, Faults, has, begin.
-/
import Derived.Test.YtchkgmknhndccaaDoorProg
import Derived.WalkKit
import Derived.WalkSpells
import Derived.Lib.Hide
namespace Go.Proofs.YtchkgmknhndccaaDoor
open Go.RowKit

/-- What a memory is: its words, how many accesses and faults there were, and the last access. -/
structure MSt where
  ws : List Nat
  ops : Nat
  faults : Nat
  kind : Int
  at_ : Int

def wordsOf (ws : List Nat) : Array Value := (ws.map fun x : Nat => Value.int .u64 (x : Int)).toArray

/-- The memory of block g, its words in block h. -/
structure MemAt (w : World) (g h : Nat) (s : MSt) : Prop where
  head : w.heap[g]? = some (.cells #[.slice (some ⟨h, 0, none⟩) s.ws.length s.ws.length, .int .i64 s.ops, .int .i64 s.faults, .int .i64 s.kind, .int .i64 s.at_] 84 (0, 0))
  body : w.heap[h]? = some (.cells (wordsOf s.ws) 53 (0, 0))
  ne : g ≠ h
  len : s.ws.length ≤ 16777216

/-- Nothing but blocks g and h has turned, of what was there. -/
structure Else (g h : Nat) (w w' : World) : Prop where
  os : w'.os = w.os
  tape : w'.tape = w.tape
  output : w'.output = w.output
  size : w.heap.size ≤ w'.heap.size
  block : ∀ k, k < w.heap.size → k ≠ g → k ≠ h → w'.heap[k]? = w.heap[k]?

theorem Else.refl (g h : Nat) (w : World) : Else g h w w := ⟨rfl, rfl, rfl, Nat.le_refl _, fun _ _ _ _ => rfl⟩
theorem Else.trans {g h : Nat} {a b c : World} (x : Else g h a b) (y : Else g h b c) : Else g h a c :=
  ⟨y.os.trans x.os, y.tape.trans x.tape, y.output.trans x.output, Nat.le_trans x.size y.size, fun k h1 h2 h3 => (y.block k (Nat.lt_of_lt_of_le h1 x.size) h2 h3).trans (x.block k h1 h2 h3)⟩
theorem Else.below {g h B : Nat} {w w' : World} (x : Else g h w w') (hg : B ≤ g) (hh : B ≤ h) (hB : B ≤ w.heap.size) : Below B w w' :=
  ⟨x.os, x.tape, x.output, x.size, fun k hk => x.block k (by omega) (by omega) (by omega)⟩
theorem Else.of_below {g h : Nat} {w w' : World} (x : Below w.heap.size w w') : Else g h w w' := ⟨x.os, x.tape, x.output, x.size, fun k hk _ _ => x.block k hk⟩

theorem heap_lt {w : World} {g : Nat} {o : Obj} (h : w.heap[g]? = some o) : g < w.heap.size := (Array.getElem?_eq_some_iff.1 h).1
theorem cell_of {w : World} {g j : Nat} {a : Array Value} {t : TypeId} {r : Nat × Nat} (h : w.heap[g]? = some (.cells a t r)) : w.cell? ⟨g, j, none⟩ = a[j]? := by
  simp [World.cell?, h]
theorem frozen_of {w : World} {g j : Nat} {a : Array Value} {t : TypeId} (h : w.heap[g]? = some (.cells a t (0, 0))) : w.frozen? ⟨g, j, none⟩ = false := by
  simp [World.frozen?, h]
theorem set_of {w : World} {g j : Nat} {a : Array Value} {t : TypeId} (h : w.heap[g]? = some (.cells a t (0, 0))) (v : Value) : (w.setCell ⟨g, j, none⟩ v).heap[g]? = some (.cells (a.setIfInBounds j v) t (0, 0)) := by
  have := heap_lt h
  simp [World.setCell, Array.getElem?_modify, h]
theorem set_other {w : World} {g j k : Nat} (hk : k ≠ g) (v : Value) : (w.setCell ⟨g, j, none⟩ v).heap[k]? = w.heap[k]? := Below.heap_setCell _ _ _ _ hk
theorem Else.set {g h b j : Nat} {a w : World} (x : Else g h a w) (hb : b = g ∨ b = h) (v : Value) : Else g h a (w.setCell ⟨b, j, none⟩ v) :=
  x.trans ⟨rfl, rfl, rfl, by simp [World.setCell], fun k _ h2 h3 => set_other (by rcases hb with rfl | rfl <;> assumption) v⟩

theorem MemAt.lt {w : World} {g h : Nat} {s : MSt} (m : MemAt w g h s) : g < w.heap.size ∧ h < w.heap.size := ⟨heap_lt m.head, heap_lt m.body⟩
theorem MemAt.next {w w' : World} {g h : Nat} {s : MSt} (m : MemAt w g h s) (b : Below w.heap.size w w') : MemAt w' g h s :=
  ⟨(b.block g m.lt.1).trans m.head, (b.block h m.lt.2).trans m.body, m.ne, m.len⟩
theorem MemAt.c0 {w : World} {g h : Nat} {s : MSt} (m : MemAt w g h s) : w.cell? ⟨g, 0, none⟩ = some (.slice (some ⟨h, 0, none⟩) s.ws.length s.ws.length) := cell_of m.head
theorem MemAt.c1 {w : World} {g h : Nat} {s : MSt} (m : MemAt w g h s) : w.cell? ⟨g, 1, none⟩ = some (.int .i64 s.ops) := cell_of m.head
theorem MemAt.c2 {w : World} {g h : Nat} {s : MSt} (m : MemAt w g h s) : w.cell? ⟨g, 2, none⟩ = some (.int .i64 s.faults) := cell_of m.head
theorem MemAt.c3 {w : World} {g h : Nat} {s : MSt} (m : MemAt w g h s) : w.cell? ⟨g, 3, none⟩ = some (.int .i64 s.kind) := cell_of m.head
theorem MemAt.c4 {w : World} {g h : Nat} {s : MSt} (m : MemAt w g h s) : w.cell? ⟨g, 4, none⟩ = some (.int .i64 s.at_) := cell_of m.head
theorem MemAt.fz {w : World} {g h : Nat} {s : MSt} (m : MemAt w g h s) (j : Nat) : w.frozen? ⟨g, j, none⟩ = false := frozen_of m.head
theorem MemAt.word {w : World} {g h : Nat} {s : MSt} (m : MemAt w g h s) (j : Nat) (hj : j < s.ws.length) : w.cell? ⟨h, j, none⟩ = some (.int .u64 ((s.ws.getD j 0 : Nat) : Int)) := by
  rw [cell_of m.body]; simp [wordsOf, hj]
theorem MemAt.wz {w : World} {g h : Nat} {s : MSt} (m : MemAt w g h s) (j : Nat) : w.frozen? ⟨h, j, none⟩ = false := frozen_of m.body

theorem len_any (g h : Nat) (s : MSt) (w : World) (m : MemAt w g h s) :
    Calls Tryd.prog 26 #[.pointer (some ⟨g, 0, none⟩)] w fun e w' => e = .returned (.int .i64 s.ws.length) ∧ w = w' := by
  have c0 := m.c0
  clear m
  go_enter Tryd.func26, Tryd.ntmps26
  go_wp2
  go_ret
  exact ⟨rfl, rfl⟩
theorem ops_any (g h : Nat) (s : MSt) (w : World) (m : MemAt w g h s) :
    Calls Tryd.prog 15 #[.pointer (some ⟨g, 0, none⟩)] w fun e w' => e = .returned (.int .i64 s.ops) ∧ w = w' := by
  have c0 := m.c1
  clear m
  go_enter Tryd.func15, Tryd.ntmps15
  go_wp2
  go_ret
  exact ⟨rfl, rfl⟩
theorem faults_any (g h : Nat) (s : MSt) (w : World) (m : MemAt w g h s) :
    Calls Tryd.prog 21 #[.pointer (some ⟨g, 0, none⟩)] w fun e w' => e = .returned (.int .i64 s.faults) ∧ w = w' := by
  have c0 := m.c2
  clear m
  go_enter Tryd.func21, Tryd.ntmps21
  go_wp2
  go_ret
  exact ⟨rfl, rfl⟩

def inM (s : MSt) (a : Int) : Bool := decide (0 ≤ a) && decide (a < s.ws.length)
theorem has_any' (g h : Nat) (s : MSt) (a : Int) (w : World) (m : MemAt w g h s) :
    Calls Tryd.prog 40 #[.pointer (some ⟨g, 0, none⟩), .int .i64 a] w fun e w' => e = .returned (.bool (inM s a)) ∧ w = w' := by
  unfold inM
  by_cases h0 : 0 ≤ a
  · have e0 : decide (0 ≤ a) = true := by simpa using h0
    go_enter Tryd.func40, Tryd.ntmps40
    go_wp2_with (go_at_call 26; refine (len_any g h s _ m).mono ?_; rintro e w' ⟨rfl, rfl⟩)
    go_ret
    exact ⟨by rw [e0]; rfl, rfl⟩
  · have e0 : decide (0 ≤ a) = false := by simpa using h0
    go_enter Tryd.func40, Tryd.ntmps40
    go_wp2
    go_ret
    exact ⟨rfl, rfl⟩

/-- The memory behind the beginning of an access. -/
def MSt.begun (s : MSt) (k a : Int) : MSt := { s with ops := s.ops + 1, faults := if inM s a then s.faults else s.faults + 1, kind := k, at_ := a }

/-- ... and ahead of its look whether there is such a word. -/
def MSt.told (s : MSt) (k a : Int) : MSt := { s with ops := s.ops + 1, kind := k, at_ := a }
theorem MemAt.told {w : World} {g h : Nat} {s : MSt} (m : MemAt w g h s) (k a : Int) :
    MemAt (((w.setCell ⟨g, 1, none⟩ (.int .i64 ((s.ops : Int) + 1))).setCell ⟨g, 3, none⟩ (.int .i64 k)).setCell ⟨g, 4, none⟩ (.int .i64 a)) g h (s.told k a) := by
  refine ⟨?_, ?_, m.ne, m.len⟩
  · rw [set_of (set_of (set_of m.head _) _) _]; rfl
  · rw [set_other m.ne.symm, set_other m.ne.symm, set_other m.ne.symm]; exact m.body
theorem Else.told {w : World} {g h : Nat} (x y z : Value) : Else g h w (((w.setCell ⟨g, 1, none⟩ x).setCell ⟨g, 3, none⟩ y).setCell ⟨g, 4, none⟩ z) :=
  (((Else.refl g h w).set (.inl rfl) _).set (.inl rfl) _).set (.inl rfl) _
theorem MemAt.fault {w : World} {g h : Nat} {s : MSt} (m : MemAt w g h s) :
    MemAt (w.setCell ⟨g, 2, none⟩ (.int .i64 ((s.faults : Int) + 1))) g h { s with faults := s.faults + 1 } := by
  refine ⟨?_, ?_, m.ne, m.len⟩
  · rw [set_of m.head _]; rfl
  · rw [set_other m.ne.symm]; exact m.body
theorem begun_yes {s : MSt} {k a : Int} (h : inM s a = true) : s.begun k a = s.told k a := by simp [MSt.begun, MSt.told, h]
theorem begun_no {s : MSt} {k a : Int} (h : inM s a = false) : s.begun k a = { s.told k a with faults := s.faults + 1 } := by simp [MSt.begun, MSt.told, h]

theorem begin_any (g h : Nat) (s : MSt) (k a : Int) (w : World) (m : MemAt w g h s) (ho : s.ops < 4611686018427387904) (hf : s.faults < 4611686018427387904) :
    Calls Tryd.prog 51 #[.pointer (some ⟨g, 0, none⟩), .int .i64 k, .int .i64 a] w fun e w' => e = .returned (.bool (inM s a)) ∧ MemAt w' g h (s.begun k a) ∧ Else g h w w' := by
  have c1 := m.c1
  have c2 := m.c2
  have c3 := m.c3
  have c4 := m.c4
  have z := m.fz
  have M := Lib.hid (m.told k a)
  have E := Lib.hid (Else.told (w := w) (g := g) (h := h) (.int .i64 ((s.ops : Int) + 1)) (.int .i64 k) (.int .i64 a))
  go_enter Tryd.func51, Tryd.ntmps51
  go_wp2_with fail
  refine (has_any' g h _ a _ M.out).mono ?_
  rintro e w' ⟨rfl, rfl⟩
  rcases hi : inM s a with _ | _
  · have hi' : inM (s.told k a) a = false := hi
    have HI := Lib.hid (begun_no (k := k) hi)
    have MF := Lib.hid M.out.fault
    have EF := Lib.hid (E.out.set (j := 2) (.inl rfl) (.int .i64 ((s.faults : Int) + 1)))
    have HB := Lib.hid hi
    clear hi
    go_wp2
    go_ret
    exact ⟨by rw [HB.out]; rfl, by rw [HI.out]; exact MF.out, EF.out⟩
  · have hi' : inM (s.told k a) a = true := hi
    have HI := Lib.hid (begun_yes (k := k) hi)
    have HB := Lib.hid hi
    clear hi
    go_wp2
    go_ret
    exact ⟨by rw [HB.out]; rfl, by rw [HI.out]; exact M.out, E.out⟩

end Go.Proofs.YtchkgmknhndccaaDoor
