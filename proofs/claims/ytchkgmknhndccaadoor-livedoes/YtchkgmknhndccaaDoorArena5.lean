/-
  Contracts of the document's own arena: Address, Block.
-/
import Derived.Test.YtchkgmknhndccaaDoorArena4
namespace Go.Proofs.YtchkgmknhndccaaDoor
open Go.RowKit

theorem adr_at {S : Int} {len : Nat} {f : Nat → Int} {k a s i : Int} (ok : ClsOk len f) (s0 : 0 ≤ s) (s1 : s < S) (i0 : 0 ≤ i) (i1 : i < capI len f k) :
    adrI S len f k s i = a ↔ (blkB S len f k a = true ∧ s = (a - 65536) / 1024 ∧ i = (a - 65536) % 1024 / szI len f k) := by
  have hz := szI_bd (k := k) ok
  have hz0 : szI len f k ≠ 0 := fun e => by
    have : capI len f k = 0 := by unfold capI; rw [if_pos (by omega)]
    omega
  have hc : capI len f k = 1024 / szI len f k := by unfold capI; rw [if_neg (by omega)]
  simp only [blkB, adrI, Bool.and_eq_true, decide_eq_true_eq]
  rw [if_neg (by omega)]
  generalize hR : capI len f k = R at *
  generalize szI len f k = z at *
  have hz1 : 0 < z := by omega
  have hmul : R * z ≤ 1024 := by rw [hc]; exact Int.ediv_mul_le _ hz0
  have hiz : i * z + z ≤ R * z := by
    have : (i + 1) * z ≤ R * z := Int.mul_le_mul_of_nonneg_right (by omega) (by omega)
    rw [Int.add_mul, Int.one_mul] at this; exact this
  have hi0 : 0 ≤ i * z := Int.mul_nonneg i0 (by omega)
  constructor
  · intro h
    have e1 : (a - 65536) / 1024 = s := by omega
    have e2 : (a - 65536) % 1024 = i * z := by omega
    rw [e1, e2]
    refine ⟨⟨⟨⟨by omega, by omega⟩, Int.mul_emod_left i z⟩, ?_⟩, rfl, ?_⟩
    · rw [Int.mul_ediv_cancel _ hz0]; exact i1
    · rw [Int.mul_ediv_cancel _ hz0]
  · rintro ⟨⟨⟨⟨h1, h2⟩, h3⟩, h4⟩, h5, h6⟩
    have hd := Int.mul_ediv_add_emod ((a - 65536) % 1024) z
    rw [h3, ← h6, Int.mul_comm] at hd
    omega

end Go.Proofs.YtchkgmknhndccaaDoor
