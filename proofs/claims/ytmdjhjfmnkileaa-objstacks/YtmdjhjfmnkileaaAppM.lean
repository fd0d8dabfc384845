/-
  Many words more, onto a row of the program's own.
-/
import Derived.Test.YtmdjhjfmnkileaaSlot3
import Derived.Deep.AppendLies
import Derived.Laws.CopyOwn
namespace Go.Proofs.Ytmdjhjfmnkileaa
open Go.RowKit Go.Sort

theorem app_manyW {w : World} {v : Value} {ws : List Nat} {ao : Option Addr} {m c : Nat} {f : Nat → Nat} (hown : WRw w v ws) (hr : Row64 w ao m f) (hnil : ao = none → m = 0 ∧ c = 0) (few : ws.length + m ≤ 1048576) (ty : TypeId) :
    ∃ v' w', (Builtin.append_ #[24, 24] ty #[v, .slice ao m c]).run Try.prog w = .ok v' w' ∧ WRw w' v' (ws ++ listOf f m) ∧ w.grownBy w' v.ownBlock ∧ (v'.ownBlock = v.ownBlock ∨ v'.ownBlock = some w.heap.size) := by
  obtain ⟨inf, hq, hsz, hz, hby⟩ := info64'
  cases ao with
  | none =>
    obtain ⟨rfl, rfl⟩ := hnil rfl
    refine ⟨v, w, run_append_owned_none (P := Try.prog) w 0 _ ty _ inf 1 Try.underlying24 hq _ _ _ hown, ?_, World.grownBy.refl _ _, .inl rfl⟩
    simpa [listOf] using hown
  | some ad =>
    have hnews : ∀ j u, (vals (listOf f m))[j]? = some u → w.cell? (ad.add j) = some u := fun j u hu => by
      have hj : j < m := by have := (List.getElem?_eq_some_iff.1 hu).1; simpa [vals, listOf] using this
      obtain ⟨b, off, e, _, hc⟩ := hr.2 (by omega)
      cases e
      rw [Addr.add_lit, hc j hj, ← hu]
      simp [vals, listOf, hj]
    obtain ⟨v', w', h1, h2, h3, _, h5⟩ := run_append_own_at (P := Try.prog) w 0 24 ty 29 inf _ 1 8 Try.underlying24 hq hz hsz hby rfl (by omega) v ws.length (vals ws) hown ad m c (vals (listOf f m)) (by rw [vals_len, listOf_len]; omega) hnews (vals_one _) (by unfold maxLen; omega) (by omega) (Nat.zero_le _)
    refine ⟨v', w', h1, ?_, h3, h5⟩
    unfold WRw
    rw [vals_app, List.length_append, listOf_len]; exact h2
theorem words_row {w : World} {b : Nat} {L : List Nat} (h : w.heap[b]? = some (.cells (wordsOf L) 29 (0, 0))) (hL : ∀ x ∈ L, x < 18446744073709551616) : Row64 w (some ⟨b, 0, none⟩) L.length (fun j => L.getD j 0) := by
  refine ⟨fun j => ?_, fun _ => ⟨b, 0, rfl, heap_lt h, fun j hj => ?_⟩⟩
  · show L.getD j 0 < _
    by_cases hj : j < L.length
    · rw [List.getD_eq_getElem?_getD, List.getElem?_eq_getElem hj]; exact hL _ (List.getElem_mem _)
    · rw [List.getD_eq_getElem?_getD, List.getElem?_eq_none (by omega)]; decide
  · rw [Nat.zero_add, cell_of h]; simp [wordsOf, hj]
theorem listOf_getD (L : List Nat) : listOf (fun j => L.getD j 0) L.length = L := by
  apply List.ext_getElem
  · simp [listOf]
  · intro i h1 h2
    simp [listOf, List.getElem?_eq_getElem h2]
theorem WRw.empty (w : World) : WRw (w.alloc (.cells #[] 29)) (.slice (some ⟨w.heap.size, 0, none⟩) 0 0) [] :=
  ⟨rfl, .inr ⟨w.heap.size, 0, #[], rfl, Nat.zero_le _, heap_new _ _, Nat.le_refl _, by unfold maxLen; omega, rfl, rfl⟩⟩

end Go.Proofs.Ytmdjhjfmnkileaa
