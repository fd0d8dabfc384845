/-
  A row of ints of the statement's own, apart from a Heart and its words.
-/
import Derived.Test.YtkogeeaoppkhkaaDoorGen1
import Derived.Test.YtkogeeaoppkhkaaDoorConfM
import Derived.Test.YtkogeeaoppkhkaaDoorHeart10
namespace Go.Proofs.YtkogeeaoppkhkaaDoor
open Go.RowKit Go.Sort Go.Shelf

def intE (x : Nat) : List Value := [.int .i64 (x : Int)]
theorem intEnc : Enc 1 intE := ⟨fun _ => rfl, fun x v hv => by simp [intE] at hv; subst hv; rfl⟩
structure Lr (w0 w : World) (v : Value) (ls : List Nat) (M N b cb : Nat) : Prop where
  row : ORow 3 1 intE w v ls
  ne : ∀ q, v.ownBlock = some q → w0.heap.size ≤ q ∧ q ≠ M ∧ q ≠ N ∧ q ≠ b ∧ q ≠ cb
section
variable {w0 w w' : World} {v : Value} {ls : List Nat} {M N b cb : Nat}
theorem Lr.nil : Lr w0 w (.slice none 0 0) [] M N b cb := ⟨ORow.nil w, fun q h => by cases h⟩
theorem Lr.next (h : Lr w0 w v ls M N b cb) (hb : Below w.heap.size w w') : Lr w0 w' v ls M N b cb := ⟨h.row.next hb, h.ne⟩
theorem Lr.stay {k : Nat} (h : Lr w0 w v ls M N b cb) (o : Only [k] w w') (hk : ∀ q, v.ownBlock = some q → q ≠ k) : Lr w0 w' v ls M N b cb := ⟨h.row.stay o (fun q hq => by simpa using hk q hq), h.ne⟩
theorem Lr.stayB (h : Lr w0 w v ls M N b cb) (o : Only [b] w w') : Lr w0 w' v ls M N b cb := h.stay o fun q hq => (h.ne q hq).2.2.2.1
theorem Lr.far (h : Lr w0 w v ls M N b cb) : ∀ q, v.ownBlock = some q → q ≠ w.heap.size := fun q hq => by have := h.row.lt hq; omega
theorem infoI' : (Tryd.prog.info? 3).map (fun i => (i.zero, i.size, i.bytes)) = some (some (.int .i64 0), 1, 8) := by kernel_rfl
theorem Lr.app {vb x : Nat} (h : Lr w0 w v ls M N b cb) (hv : w.heap[vb]? = some (.cells #[.int .i64 (x : Int)] 3 (0, 0))) (few : ls.length ≤ 1048576) (ty : TypeId) (hS : ∀ k, k = M ∨ k = N ∨ k = b ∨ k = cb → k < w.heap.size) (h0 : w0.heap.size ≤ w.heap.size) :
    ∃ v' w', (Builtin.append_ #[22, 22] ty #[v, .slice (some ⟨vb, 0, none⟩) 1 1]).run Tryd.prog w = .ok v' w' ∧ Lr w0 w' v' (ls ++ [x]) M N b cb ∧ w.grownBy w' v.ownBlock ∧ ∃ bq cq, v' = .slice (some ⟨bq, 0, none⟩) (ls.length + 1) cq := by
  obtain ⟨i, hi, hz, hs, hb⟩ := info_parts' infoI'
  obtain ⟨v', w', r1, r2, r3, r4, bq, cq, r5⟩ := ORow.app intEnc (by decide) Tryd.underlying22 hi hz hs hb rfl h.row (x := x) hv (by omega) (by unfold maxLen; omega) ty
  refine ⟨v', w', r1, ⟨r2, fun q hq => ?_⟩, r3, bq, cq, r5⟩
  rcases r4 with e | e
  · exact h.ne q (by rw [← e]; exact hq)
  · rw [e] at hq
    cases hq
    refine ⟨h0, ?_, ?_, ?_, ?_⟩
    · have := hS M (.inl rfl); omega
    · have := hS N (.inr (.inl rfl)); omega
    · have := hS b (.inr (.inr (.inl rfl))); omega
    · have := hS cb (.inr (.inr (.inr rfl))); omega
end
end Go.Proofs.YtkogeeaoppkhkaaDoor
