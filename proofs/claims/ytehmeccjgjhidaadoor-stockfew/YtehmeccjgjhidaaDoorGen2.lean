/-
  A whole row behind a row; rows where nothing but other blocks turned.
-/
import Derived.Test.YtehmeccjgjhidaaDoorGen1
import Derived.Laws.OwnMore
namespace Go.Proofs.YtehmeccjgjhidaaDoor
open Go.RowKit Go.Sort

section
variable {T : TypeId} {k : Nat} {α : Type} {e : α → List Value}
/-- A whole row behind another one. -/
theorem ORow.cat (E : Enc k e) (hk : 0 < k) {P : Program} {sT : TypeId} {i : TypeInfo} {z : Value} {bytes : Nat} (hu : P.underlying sT = some (.slice T)) (hi : P.info? T = some i) (hz : i.zero = some z) (hsz : i.size = k) (hby : i.bytes = bytes) (hzs : z.cells.size = k) {w : World} {v u : Value} {l0 l : List α} (hv : ORow T k e w v l0) (h : ORow T k e w u l) (few : (l0.length + l.length) * bytes ≤ 140737488355328) (fe2 : l0.length + l.length ≤ maxLen) (ty : TypeId) :
    ∃ v' w', (Builtin.append_ #[sT, sT] ty #[v, u]).run P w = .ok v' w' ∧ ORow T k e w' v' (l0 ++ l) ∧ w.grownBy w' v.ownBlock ∧ (v'.ownBlock = v.ownBlock ∨ v'.ownBlock = some w.heap.size) := by
  rcases ORow.cases h with ⟨rfl, rfl⟩ | ⟨rb, cap, cur, rfl, h2, h3, h4, h5, h6⟩
  · refine ⟨v, w, run_append_owned_none (P := P) w 0 sT ty T i k hu hi _ _ _ hv, by simpa using hv, World.grownBy.refl _ _, .inl rfl⟩
  · have hnews : ∀ j u, (l.flatMap e)[j]? = some u → w.cell? ((⟨rb, 0, none⟩ : Addr).add j) = some u := fun j u hu => by
      have hj : j < (l.flatMap e).length := (List.getElem?_eq_some_iff.1 hu).1
      rw [flat_len E] at hj
      rw [Addr.add_lit, Nat.zero_add, cell_of h2, ← Array.getElem?_toList, ← hu, ← h6, List.getElem?_take, if_pos hj]
    obtain ⟨v', w', r1, r2, r3, _, r5⟩ := run_append_own_at (P := P) w 0 sT ty T i z k bytes hu hi hz hsz hby hzs hk v l0.length (l0.flatMap e) hv ⟨rb, 0, none⟩ l.length cap (l.flatMap e) (by rw [flat_len E]) hnews (flat_one E l) fe2 few (Nat.zero_le _)
    refine ⟨v', w', r1, ?_, r3, r5⟩
    show ORow _ k e _ _ _
    unfold ORow
    rw [List.flatMap_append, List.length_append]
    exact r2
theorem ORow.keep {w w' : World} {v : Value} {l : List α} (h : ORow T k e w v l) (x : ∀ b, v.ownBlock = some b → w'.heap[b]? = w.heap[b]?) : ORow T k e w' v l := by
  refine ⟨h.1, ?_⟩
  rcases h.2 with h1 | ⟨b, cap, cur, h1, h2, h3, h4⟩
  · exact .inl h1
  · exact .inr ⟨b, cap, cur, h1, h2, (x b (by rw [h1]; rfl)).trans h3, h4⟩
end
end Go.Proofs.YtehmeccjgjhidaaDoor
