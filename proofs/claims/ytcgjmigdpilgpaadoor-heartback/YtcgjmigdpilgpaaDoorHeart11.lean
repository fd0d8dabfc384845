/-
  The set-up once more, wherever the Heart's box lies; answers in a row.
-/
import Derived.Test.YtcgjmigdpilgpaaDoorHeart10
import Derived.Test.YtcgjmigdpilgpaaDoorGen1
namespace Go.Proofs.YtcgjmigdpilgpaaDoor
open Go.RowKit Go.Sort Go.Shelf

/-- The system's box, the Heart's, and its classes, made since w0. -/
structure Sc0 (w0 w : World) (M N cb : Nat) (W T : Int) (S B len : Nat) (ad : Option Addr) (cap : Nat) (f : Nat → Int) : Prop where
  cfg : Cfg5 w M W (S : Nat) (B : Nat) T (.slice ad len cap)
  box : HBox w N W (S : Nat) (B : Nat) T (.slice (some ⟨cb, 0, none⟩) len len)
  row : w.heap[cb]? = some (.cells (numsOf f len).toArray 3 (0, 0))
  be : Below w0.heap.size w0 w
  ne : w0.heap.size ≤ M ∧ w0.heap.size ≤ N ∧ w0.heap.size ≤ cb ∧ M ≠ N ∧ M ≠ cb ∧ N ≠ cb
section
variable {w0 w w' : World} {M N b cb : Nat} {W T : Int} {S B len cap : Nat} {ad : Option Addr} {f : Nat → Int}
theorem Sc0.next (h : Sc0 w0 w M N cb W T S B len ad cap f) (hb : Below w.heap.size w w') : Sc0 w0 w' M N cb W T S B len ad cap f :=
  ⟨cfg_next h.cfg hb, h.box.next hb, (hb.block cb (heap_lt h.row)).trans h.row, h.be.trans (hb.mono h.be.size), h.ne⟩
theorem Sc0.su (h : Sc0 w0 w M N cb W T S B len ad cap f) (h3 : 3 ≤ w0.heap.size) (hF : FldAt w0) (hb : Below w.heap.size w w') (hbl : w.heap.size ≤ b) (hw : HW w' b (List.replicate S Sb.none) []) (ok : ClsOk len f) (bt : B ≤ 64) :
    Su w0 w' M N b cb W T S B len ad cap f (List.replicate S Sb.none) := by
  have c1 := cfg_lt h.cfg
  have c2 := heap_lt h.box
  have c3 := heap_lt h.row
  have c4 := h.be.size
  have n := h.next hb
  have ne := h.ne
  exact ⟨⟨n.box, n.row, hw, hF.next n.be, n.be, h3, by omega, by simp, ok, bt⟩, n.cfg, by omega⟩
end
/-- A row of answers, apart from a Heart and its words. -/
structure Or (w0 w : World) (v : Value) (ls : List (Nat × Nat)) (M N b cb : Nat) : Prop where
  row : OpRow w v ls
  ne : ∀ q, v.ownBlock = some q → w0.heap.size ≤ q ∧ q ≠ M ∧ q ≠ N ∧ q ≠ b ∧ q ≠ cb
section
variable {w0 w w' : World} {v : Value} {ls : List (Nat × Nat)} {M N b cb : Nat}
theorem Or.nil : Or w0 w (.slice none 0 0) [] M N b cb := ⟨ORow.nil w, fun q h => by cases h⟩
theorem Or.next (h : Or w0 w v ls M N b cb) (hb : Below w.heap.size w w') : Or w0 w' v ls M N b cb := ⟨ORow.next h.row hb, h.ne⟩
theorem Or.stay {k : Nat} (h : Or w0 w v ls M N b cb) (o : Only [k] w w') (hk : ∀ q, v.ownBlock = some q → q ≠ k) : Or w0 w' v ls M N b cb := ⟨ORow.stay h.row o (fun q hq => by simpa using hk q hq), h.ne⟩
theorem Or.stayB (h : Or w0 w v ls M N b cb) (o : Only [b] w w') : Or w0 w' v ls M N b cb := h.stay o fun q hq => (h.ne q hq).2.2.2.1
theorem Or.far (h : Or w0 w v ls M N b cb) : ∀ q, v.ownBlock = some q → q ≠ w.heap.size := fun q hq => by have := ORow.lt h.row hq; omega
theorem Or.app {vb : Nat} {x : Nat × Nat} (h : Or w0 w v ls M N b cb) (hv : w.heap[vb]? = some (.cells (opE x).toArray 37 (0, 0))) (few : ls.length ≤ 1048576) (ty : TypeId) (hS : ∀ k, k = M ∨ k = N ∨ k = b ∨ k = cb → k < w.heap.size) (h0 : w0.heap.size ≤ w.heap.size) :
    ∃ v' w', (Builtin.append_ #[51, 51] ty #[v, .slice (some ⟨vb, 0, none⟩) 1 1]).run Tryd.prog w = .ok v' w' ∧ Or w0 w' v' (ls ++ [x]) M N b cb ∧ w.grownBy w' v.ownBlock ∧ ∃ bq cq, v' = .slice (some ⟨bq, 0, none⟩) (ls.length + 1) cq := by
  obtain ⟨v', w', r1, r2, r3, r4, bq, cq, r5⟩ := OpRow.app h.row hv few ty
  refine ⟨v', w', r1, ⟨r2, fun q hq => ?_⟩, r3, bq, cq, r5⟩
  rcases r4 with e | e
  · exact h.ne q (by rw [← e]; exact hq)
  · rw [e] at hq
    cases hq
    refine ⟨h0, ?_, ?_, ?_, ?_⟩
    · have := hS M (.inl rfl); omega
    · have := hS N (.inr (.inl rfl)); omega
    · have := hS b (.inr (.inr (.inl rfl))); omega
    · have := hS cb (.inr (.inr (.inr rfl))); omega
end
end Go.Proofs.YtcgjmigdpilgpaaDoor
