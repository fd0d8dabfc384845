/-
  Lists of words that came in, as the walks take them.
-/
import Derived.Test.YtkogeeaoppkhkaaDoorProg
import Derived.OpenShut
import Derived.WalkKit
import Derived.Lib.Hide
namespace Go.Proofs.YtkogeeaoppkhkaaDoor
open Go.RowKit

/-- What a walk is told of a slice of integers that came in: it is nil, or it leads to a row of 'cap' numbers. -/
def IsRow (k : IntKind) (w : World) (a : Option Addr) (len cap : Nat) (zs : List Int) : Prop :=
  (a = none ∧ len = 0 ∧ cap = 0 ∧ zs = []) ∨
  ∃ x, a = some x ∧ len ≤ cap ∧ cap ≤ maxLen ∧ zs.length = cap ∧ (∀ i, i < zs.length → w.cell? (x.add i) = some (.int k (zs.getD i 0))) ∧ ∀ n ∈ zs, (Lit.int k n).wf = true

/-- A row of words, by the function that gives them. -/
def Row64 (w : World) (a : Option Addr) (len : Nat) (f : Nat → Nat) : Prop :=
  (∀ j, f j < 18446744073709551616) ∧ (0 < len → ∃ b off, a = some ⟨b, off, none⟩ ∧ b < w.heap.size ∧ ∀ j, j < len → w.cell? ⟨b, off + j, none⟩ = some (.int .u64 ((f j : Nat) : Int)))
theorem Row64.next {w w' : World} {a : Option Addr} {len : Nat} {f : Nat → Nat} (h : Row64 w a len f) (hb : Below w.heap.size w w') : Row64 w' a len f :=
  ⟨h.1, fun h0 => by
    obtain ⟨b, off, e, hl, hc⟩ := h.2 h0
    exact ⟨b, off, e, Nat.lt_of_lt_of_le hl hb.size, fun j hj => (hb.cell (p := ⟨b, off + j, none⟩) hl).trans (hc j hj)⟩⟩
theorem Row64.at {w : World} {a : Option Addr} {len j : Nat} {f : Nat → Nat} (h : Row64 w a len f) (hj : j < len) : ∃ b off, a = some ⟨b, off, none⟩ ∧ w.cell? ⟨b, off + j, none⟩ = some (.int .u64 ((f j : Nat) : Int)) := by
  obtain ⟨b, off, e, _, hc⟩ := h.2 (by omega)
  exact ⟨b, off, e, hc j hj⟩
theorem IsRow.len {k : IntKind} {w : World} {a : Option Addr} {len cap : Nat} {zs : List Int} (h : IsRow k w a len cap zs) : len ≤ maxLen := by
  rcases h with ⟨_, rfl, _⟩ | ⟨x, _, h1, h2, _⟩
  · exact Nat.zero_le _
  · omega
theorem IsRow.row {w : World} {a : Option Addr} {len cap : Nat} {zs : List Int} (h : IsRow .u64 w a len cap zs) : ∃ f, Row64 w a len f := by
  rcases h with ⟨rfl, rfl, rfl, _⟩ | ⟨x, rfl, hlc, hcm, hzl, hcell, hwf⟩
  · exact ⟨fun _ => 0, fun _ => Nat.zero_lt_succ _, fun h => absurd h (by omega)⟩
  · have hB : ∀ j, j < zs.length → 0 ≤ zs.getD j 0 ∧ zs.getD j 0 ≤ 18446744073709551615 := fun j hj => by
      have hm2 : zs.getD j 0 ∈ zs := by
        rw [List.getD_eq_getElem?_getD, List.getElem?_eq_getElem hj, Option.getD_some]
        exact List.getElem_mem _
      have := bounds_u64 (hwf _ hm2)
      omega
    refine ⟨fun j => (zs.getD j 0).toNat, fun j => ?_, fun h0 => ?_⟩
    · show (zs.getD j 0).toNat < 18446744073709551616
      by_cases hj : j < zs.length
      · have := hB j hj; omega
      · have : zs.getD j 0 = 0 := by rw [List.getD_eq_getElem?_getD, List.getElem?_eq_none (by omega)]; rfl
        rw [this]; decide
    · obtain ⟨b, off, rfl, hc⟩ := ints_at hcell (by omega)
      refine ⟨b, off, rfl, World.block_lt_of_cell? w ⟨b, off + 0, none⟩ (hc 0 (by omega)), fun j hj => ?_⟩
      rw [hc j (by omega)]
      have := hB j (by omega)
      show _ = some (Value.int .u64 (((zs.getD j 0).toNat : Nat) : Int))
      rw [Int.toNat_of_nonneg this.1]

end Go.Proofs.YtkogeeaoppkhkaaDoor
