/-
  Fill: a loop over slices.Backward.
-/
import Derived.Test.YtehmeccjgjhidaaDoorStockQ
namespace Go.Proofs.YtehmeccjgjhidaaDoor
open Go.RowKit Go.Maps Go.Sort Go.Shelf
attribute [local go_sem] Oper.semAt_some

/-- What stands in each round of Fill. -/
structure FI (w w2 : World) (sb clb pb : Nat) (W S B T : Int) (len : Nat) (f : Nat → Int) (n : Nat) (P : Nat → List (Int × Int)) (L : Nat → Value) (M : Nat → Nat) (k : Nat) (s : Int) (N Q lb len' : Nat) (pre : List (Nat × Nat)) (X : World) : Prop where
  st : ∃ n' v', n' ≤ n + pre.length ∧ Stk X sb clb pb W S B T len f n' (updP P k (fillL S len f k (P k) (bksOf s pre))) (updL L k v') M ∧ (v'.ownBlock = (L k).ownBlock ∨ ∃ b, v'.ownBlock = some b ∧ w.heap.size ≤ b)
  on : Only ([pb, M k] ++ (L k).ownBlock.toList) w X
  h0 : X.heap[N]? = w2.heap[N]?
  h1 : X.heap[N + 1]? = w2.heap[N + 1]?
  h2 : X.heap[N + 1 + 1]? = w2.heap[N + 1 + 1]?
  h3 : X.heap[Q]? = w2.heap[Q]?
  h4 : 0 < len' → X.heap[lb]? = w2.heap[lb]?
  sz : w2.heap.size ≤ X.heap.size
theorem FI.own {w w2 : World} {sb clb pb : Nat} {W S B T : Int} {len : Nat} {f : Nat → Int} {n : Nat} {P : Nat → List (Int × Int)} {L : Nat → Value} {M : Nat → Nat} {k : Nat} {s : Int} {N Q lb len' : Nat} (a : w.heap.size ≤ w2.heap.size) (b0 : N + 1 + 1 < w2.heap.size) (b1 : Q < w2.heap.size) (b2 : 0 < len' → lb < w2.heap.size) (hM : ∀ j, j < len → M j < w.heap.size) :
    OwnFrom w2.heap.size (FI w w2 sb clb pb W S B T len f n P L M k s N Q lb len') := by
  intro pre X X' row h hg hr
  have o : Only row.toList X X' := Only.of_grown hg (fun b hb => by simp [hb])
  have fr : ∀ b ∈ row.toList, w2.heap.size ≤ b ∧ ∀ u, X.heap[b]? = some u → u.isCells = false := fun b hb => by
    simp at hb
    obtain ⟨h1, u, h2, h3⟩ := hr b hb
    exact ⟨h1, fun u' hu => by rw [h2] at hu; cases hu; exact h3⟩
  have st : ∀ b, b < w2.heap.size → X'.heap[b]? = X.heap[b]? := fun b hb => o.block b (by have := h.sz; omega) (fun hm => by have := (fr b hm).1; omega)
  obtain ⟨n', v', q1, q2, q3⟩ := h.st
  refine ⟨⟨n', v', q1, q2.far o (fun b hb => (fr b hb).2) (fun j hj hm => by have := (fr _ hm).1; have := hM j hj; omega), q3⟩, h.on.trans' o (fun b hb => .inr (by have := (fr b hb).1; omega)), (st _ (by omega)).trans h.h0, (st _ (by omega)).trans h.h1, (st _ (by omega)).trans h.h2, (st _ b1).trans h.h3, fun hp => (st _ (b2 hp)).trans (h.h4 hp), by have := h.sz; have := o.size; omega⟩
end Go.Proofs.YtehmeccjgjhidaaDoor
