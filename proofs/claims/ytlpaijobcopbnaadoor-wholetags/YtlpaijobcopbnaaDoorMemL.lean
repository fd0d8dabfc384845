/-
  Facts on memories as the walks of layer 7 have them.
-/
import Derived.Test.YtlpaijobcopbnaaDoorSlot3
namespace Go.Proofs.YtlpaijobcopbnaaDoor
open Go.RowKit Go.Sort

/-- A memory of N words, the first k of a row laid from a place on. -/
def laidL (f : Nat → Nat) (at_ k N : Nat) : List Nat := (List.range N).map fun i => if at_ ≤ i ∧ i < at_ + k then f (i - at_) else 0
theorem laidL_len (f : Nat → Nat) (at_ k N : Nat) : (laidL f at_ k N).length = N := by simp [laidL]
theorem laidL_zero (f : Nat → Nat) (at_ N : Nat) : laidL f at_ 0 N = List.replicate N 0 := by
  apply List.ext_getElem
  · simp [laidL]
  · intro i h1 h2
    simp only [laidL, List.getElem_map, List.getElem_range, List.getElem_replicate]
    rw [if_neg (by omega)]
theorem laidL_step (f : Nat → Nat) (at_ k N : Nat) : (laidL f at_ k N).set (at_ + k) (f k) = laidL f at_ (k + 1) N := by
  apply List.ext_getElem
  · simp [laidL]
  · intro i h1 h2
    simp only [laidL, List.getElem_set, List.getElem_map, List.getElem_range]
    by_cases h : at_ + k = i
    · subst h; rw [if_pos rfl, if_pos (by omega)]; congr 1; omega
    · rw [if_neg h]
      by_cases h' : at_ ≤ i ∧ i < at_ + k
      · rw [if_pos h', if_pos (by omega)]
      · rw [if_neg h', if_neg (by omega)]
theorem laidL_at (f : Nat → Nat) (at_ k N i : Nat) (h : i < N) : (laidL f at_ k N).getD i 0 = if at_ ≤ i ∧ i < at_ + k then f (i - at_) else 0 := by
  simp [laidL, h]
theorem calls_still {P : Program} {f : FuncId} {args : Array Value} {w : World} {v : Value} (h : Calls P f args w fun e w' => e = .returned v ∧ w = w') : Calls P f args w fun e w' => e = .returned v ∧ Below w.heap.size w w' :=
  h.mono fun _ _ ⟨h1, h2⟩ => ⟨h1, by rw [← h2]; exact Below.refl _ _⟩

theorem begun_at {ms : List Nat} {o : Nat} {kd a : Int} {j : Nat} (k : Int) (h : j < ms.length) : (MSt.begun ⟨ms, o, 0, kd, a⟩ k (j : Int)) = ⟨ms, o + 1, 0, k, j⟩ := by
  rw [begun_yes (by rw [inM_nat]; simpa using h)]; rfl
theorem put_at {ms : List Nat} {o : Nat} {kd a : Int} {j x : Nat} (h : j < ms.length) : (MSt.put ⟨ms, o, 0, kd, a⟩ (j : Int) x) = ⟨ms.set j x, o, 0, kd, a⟩ := by
  unfold MSt.put; rw [inM_nat]; simp [h]
theorem rd_at {ms : List Nat} {o : Nat} {kd a : Int} {j : Nat} (h : j < ms.length) : (MSt.rd ⟨ms, o, 0, kd, a⟩ (j : Int)) = ms.getD j 0 := rd_nat h
theorem mstore {ms : List Nat} {o : Nat} {kd a : Int} {j x g h : Nat} {w : World} (m : MemAt w g h ⟨ms, o, 0, kd, a⟩) (hj : j < ms.length) (ho : o < 100000) :
    Calls Tryd.prog 13 #[.pointer (some ⟨g, 0, none⟩), .int .i64 j, .int .u64 (x : Int)] w fun e w' => e = .returned (.tuple #[]) ∧ MemAt w' g h ⟨ms.set j x, o + 1, 0, 2, j⟩ ∧ Else g h w w' := by
  have := store_any g h _ j x w m (show o < _ by omega) (show (0 : Nat) < 4611686018427387904 by decide)
  rw [begun_at 2 hj, put_at hj] at this
  exact this
theorem mpeek {ms : List Nat} {o : Nat} {kd a : Int} {j g h : Nat} {w : World} (m : MemAt w g h ⟨ms, o, 0, kd, a⟩) (hj : j < ms.length) :
    Calls Tryd.prog 19 #[.pointer (some ⟨g, 0, none⟩), .int .i64 j] w fun e w' => e = .returned (.int .u64 (ms.getD j 0 : Nat)) ∧ w = w' := by
  have := peek_any g h _ j w m
  rw [rd_at hj] at this
  exact this
/-- Words are words. -/
def AllW (l : List Nat) : Prop := ∀ x ∈ l, x < 18446744073709551616
theorem AllW.get {l : List Nat} (h : AllW l) (j : Nat) : l.getD j 0 < 18446744073709551616 := by
  by_cases hj : j < l.length
  · rw [List.getD_eq_getElem?_getD, List.getElem?_eq_getElem hj]; exact h _ (List.getElem_mem _)
  · rw [List.getD_eq_getElem?_getD, List.getElem?_eq_none (by omega)]; decide
theorem AllW.set {l : List Nat} (h : AllW l) (j : Nat) {x : Nat} (hx : x < 18446744073709551616) : AllW (l.set j x) := fun y hy => by
  rcases List.mem_or_eq_of_mem_set hy with h1 | h1
  · exact h y h1
  · rw [h1]; exact hx
theorem AllW.snoc {l : List Nat} (h : AllW l) {x : Nat} (hx : x < 18446744073709551616) : AllW (l ++ [x]) := fun y hy => by
  rcases List.mem_append.1 hy with h1 | h1
  · exact h y h1
  · simp at h1; rw [h1]; exact hx
theorem laidL_all {f : Nat → Nat} (hf : ∀ j, f j < 18446744073709551616) (a k N : Nat) : AllW (laidL f a k N) := fun x hx => by
  simp only [laidL, List.mem_map] at hx
  obtain ⟨i, _, rfl⟩ := hx
  split
  · exact hf _
  · decide

theorem words_at' {w : World} {b j : Nat} {ys : List Nat} (hw : w.heap[b]? = some (.cells (wordsOf ys) 34 (0, 0))) (hj : j < ys.length) : w.cell? ⟨b, j, none⟩ = some (.int .u64 ((ys.getD j 0 : Nat) : Int)) := by
  rw [cell_of hw]; simp [wordsOf, hj]
theorem below_only {l : List Nat} {w w1 w2 : World} (b : Below w.heap.size w w1) (x : Only l w1 w2) (h : ∀ k ∈ l, w.heap.size ≤ k) : Below w.heap.size w w2 := b.trans (x.below h b.size)
theorem new8 (n : Nat) (w : World) (hn : n ≤ 100000) : Calls Tryd.prog 11 #[.int .i64 n] w fun e w' => ∃ g h, e = .returned (.pointer (some ⟨g, 0, none⟩)) ∧ MemAt w' g h (MSt.fresh n) ∧ w.heap.size ≤ g ∧ w.heap.size ≤ h ∧ Below w.heap.size w w' := new_nat n n w (.inr (.inl ⟨rfl, by omega⟩))

end Go.Proofs.YtlpaijobcopbnaaDoor
