/-
  What Spill is done to a Stock and to the piles beside it; a class that there isn't; whatever is done.
-/
import Derived.Test.YtehmeccjgjhidaaDoorStockDo
namespace Go.Proofs.YtehmeccjgjhidaaDoor
open Go.RowKit Go.Maps Go.Sort
attribute [local go_sem] Oper.semAt_some

theorem best_ex (l : List (Int × Int)) : ∀ n, ∃ b, Best l (n + 1) b
  | 0 => ⟨0, best_one l⟩
  | n + 1 => by
    obtain ⟨b, h⟩ := best_ex l n
    by_cases g : nOf l b < nOf l ((n + 1 : Nat) : Int)
    · exact ⟨_, best_yes h g⟩
    · exact ⟨b, best_no h g⟩
theorem full_ex {l : List (Int × Int)} {n : Nat} (hne : l ≠ []) (n0 : 1 ≤ n) (n1 : n ≤ 1000) (hl : ∀ x ∈ l, 0 ≤ x.1 ∧ x.1 < (n : Int)) : ∃ s, Full l s := by
  obtain ⟨b, h⟩ := best_ex l (n - 1)
  rw [show n - 1 + 1 = n from by omega] at h
  obtain ⟨x, hx⟩ := List.exists_mem_of_ne_nil l hne
  have px : 0 < nOf l x.1 := List.length_pos_iff_exists_mem.2 ⟨x, List.mem_filter.2 ⟨hx, by simp⟩⟩
  have hq := h.2 x.1 (hl x hx).1 (hl x hx).2
  have hb : (Lit.int .i64 b).wf = true := WalkArith.wf_i64 (by rcases h.1.2 with e3 | e3 <;> have := h.1.1 <;> omega)
  refine ⟨b, hb, by omega, fun i _ => ?_⟩
  by_cases hi : 0 ≤ i ∧ i < (n : Int)
  · exact h.2 i hi.1 hi.2
  · have : nOf l i = 0 := by
      apply Nat.eq_zero_of_not_pos
      intro hp
      obtain ⟨y, hy⟩ := List.length_pos_iff_exists_mem.1 hp
      obtain ⟨h1, h2⟩ := List.mem_filter.1 hy
      have e : y.1 = i := by simpa using h2
      have := hl y h1
      rw [e] at this
      exact hi this
    exact ⟨by omega, fun e => by omega⟩
section
variable (W S B T : Int) (ad : Option Addr) (len cap : Nat) (f : Nat → Int) (sb clb pb qb n : Nat) (P : Nat → List (Int × Int)) (L : Nat → Value) (M : Nat → Nat) (Q : Nat → Value) (A : Nat → Prop)
end
end Go.Proofs.YtehmeccjgjhidaaDoor
