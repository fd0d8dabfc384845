/-
  Contracts of a memory's New and Words.
-/
import Derived.Test.YtkogeeaoppkhkaaDoorMem2
import Derived.OwnWalk
import Derived.Laws.CopyOwn
namespace Go.Proofs.YtkogeeaoppkhkaaDoor
open Go.RowKit

theorem info64 : (Tryd.prog.info? 35).map (fun i => (i.zero, i.size, i.bytes)) = some (some (.int .u64 0), 1, 8) := by kernel_rfl
theorem infoInt : (Tryd.prog.info? 3).map (fun i => (i.zero, i.size, i.bytes)) = some (some (.int .i64 0), 1, 8) := by kernel_rfl

theorem made_words (n : Nat) : (madeCells (Value.int .u64 0).cells (n * 1)) = wordsOf (List.replicate n 0) := by
  apply Array.ext
  · simp [madeCells, wordsOf]
  · intro i h1 h2
    simp [madeCells, wordsOf, Value.cells, Nat.mod_one]
theorem made_words' (n : Nat) : (madeCells #[Value.int .u64 0] n) = wordsOf (List.replicate n 0) := by
  have := made_words n; rwa [Nat.mul_one] at this
theorem owned_all {w : World} {B g n : Nat} {e : TypeId} {a : Array Value} (h : w.ownsRow B e 1 (.slice (some ⟨g, 0, none⟩) n n) n a.toList) : w.heap[g]? = some (.cells a e (0, 0)) := by
  rcases h.2 with ⟨h', _⟩ | ⟨g', cap', cur, h', hb, hg, hnc, hcm, hcs, htake⟩
  · simp at h'
  · simp only [Value.slice.injEq, Option.some.injEq, Addr.mk.injEq, and_true, true_and] at h'
    obtain ⟨rfl, rfl⟩ := h'
    rw [List.take_of_length_le (by simp; omega)] at htake
    rw [hg]
    have : cur = a := by rw [← Array.toArray_toList (xs := cur), htake]
    rw [this]
theorem grown_below {w w' : World} {row : Option Nat} (h : w.grownBy w' row) (hr : row = none) : Below w.heap.size w w' :=
  (Below.refl _ w).grown h (Nat.le_refl _) (fun k e => by rw [hr] at e; cases e)

theorem heap_new (w : World) (o : Obj) : (w.alloc o).heap[w.heap.size]? = some o := by
  show (w.heap.push o)[w.heap.size]? = _
  rw [Array.getElem?_push, if_pos rfl]

/-- A new memory of so many words. -/
def MSt.fresh (n : Nat) : MSt := ⟨List.replicate n 0, 0, 0, 0, 0⟩
theorem size64 : (Tryd.prog.info? 35).map (·.size) = some 1 := by kernel_rfl
theorem splice_all {α : Type} {L cs : List α} (h : cs.length = L.length) : splice L 0 cs = cs := by
  simp [splice, h]
theorem words_src {w : World} {h : Nat} {ws : List Nat} (hb : w.heap[h]? = some (.cells (wordsOf ws) 35 (0, 0))) (j : Nat) (v : Value) (hv : (wordsOf ws).toList[j]? = some v) : w.cell? ((⟨h, 0, none⟩ : Addr).add j) = some v := by
  rw [Addr.add_lit, Nat.zero_add, cell_of hb]
  simpa using hv
theorem words_one (ws : List Nat) : ∀ v ∈ (wordsOf ws).toList, v.oneCell' = true := by
  intro v hv
  simp [wordsOf] at hv
  obtain ⟨x, _, rfl⟩ := hv
  rfl
theorem words_len (ws : List Nat) : (wordsOf ws).toList.length = ws.length := by simp [wordsOf]

end Go.Proofs.YtkogeeaoppkhkaaDoor
