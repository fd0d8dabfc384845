/-
  The blocks that Fill lays, as a list of members.
-/
import Derived.Test.YtehmeccjgjhidaaDoorStockT
namespace Go.Proofs.YtehmeccjgjhidaaDoor
open Go.RowKit

theorem bkw_rev (l : List Nat) : (bkw (fun j => l.getD j 0) l.length l.length).map (·.2) = l.reverse := by
  apply List.ext_getElem?
  intro i
  by_cases h : i < l.length
  · have h2 : l.length - 1 - i < l.length := by omega
    rw [List.getElem?_reverse h]
    simp [bkw, h, h2, List.getD_eq_getElem?_getD]
  · rw [List.getElem?_eq_none (by simp [bkw_len]; omega), List.getElem?_eq_none (by simp; omega)]
theorem mem_lt64 {m x : Nat} (h : x ∈ Ma.mem m) : x < 64 := by
  simp [Ma.mem] at h
  omega
/-- What Fill lays: the members, the greatest first. -/
theorem bks_mem (s : Int) (m : Nat) : bksOf s (bkw (fun j => (Ma.mem m).getD j 0) (Ma.mem m).length (Ma.mem m).length) = (Ma.mem m).reverse.map fun j : Nat => (s, (j : Int)) := by
  rw [← bkw_rev (Ma.mem m)]
  simp only [bksOf, List.map_map]
  refine List.map_congr_left fun y hy => ?_
  have : y.2 ∈ (Ma.mem m).reverse := by
    rw [← bkw_rev (Ma.mem m)]
    exact List.mem_map.2 ⟨y, hy, rfl⟩
  have := mem_lt64 (List.mem_reverse.1 this)
  simp only [Function.comp]
  rw [Nat.mod_eq_of_lt this]
end Go.Proofs.YtehmeccjgjhidaaDoor
