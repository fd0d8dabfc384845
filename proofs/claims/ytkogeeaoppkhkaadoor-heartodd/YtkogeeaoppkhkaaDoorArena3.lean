/-
  Contracts of package arena: Block.
-/
import Derived.Test.YtkogeeaoppkhkaaDoorArena2
namespace Go.Proofs.YtkogeeaoppkhkaaDoor
open Go.RowKit

theorem Two5.fz {w : World} {N : Nat} {t : TypeId} {a b : Int} (h : Two5 w N t a b) (j : Nat) : w.frozen? ⟨N, j, none⟩ = false := by
  unfold Two5 at h; simp [World.frozen?, h]
theorem Two5.set {w : World} {N : Nat} {t : TypeId} {a b : Int} (h : Two5 w N t a b) (c d : Int) : Two5 ((w.setCell ⟨N, 0, none⟩ (.int .i64 c)).setCell ⟨N, 1, none⟩ (.int .i64 d)) N t c d := by
  have := h.lt
  unfold Two5 at *
  simp [World.setCell, Array.getElem?_modify, h]

/-- The block of a class that begins at an address, or none. -/
def blkB (S : Int) (len : Nat) (f : Nat → Int) (k a : Int) : Bool :=
  decide (65536 ≤ a) && decide (a < 65536 + 1024 * S) && decide ((a - 65536) % 1024 % szI len f k = 0) && decide ((a - 65536) % 1024 / szI len f k < capI len f k)
def blkV (z a : Int) (b : Bool) : Value := if b then .tuple #[.agg #[.int .i64 ((a - 65536) / 1024), .int .i64 ((a - 65536) % 1024 / z)], .bool true] else .tuple #[.agg #[.int .i64 0, .int .i64 0], .bool false]
theorem blk_mod {a z : Int} (hz : z % 16 = 0) (h : a % 1024 % z = 0) : a % 16 = 0 := by
  have h1 : (a % 1024) % 16 = 0 := by
    obtain ⟨q, hq⟩ := Int.dvd_of_emod_eq_zero h
    obtain ⟨r, hr⟩ := Int.dvd_of_emod_eq_zero hz
    rw [hq, hr, Int.mul_assoc]; exact Int.mul_emod_right _ _
  omega
theorem blk_no_place {S : Int} {len : Nat} {f : Nat → Int} {k a : Int} (ok : ClsOk len f) (h : a < 65536 ∨ 65536 + 1024 * S ≤ a ∨ a % 16 ≠ 0) : blkB S len f k a = false := by
  rcases hb : blkB S len f k a with _ | _
  · rfl
  · simp only [blkB, Bool.and_eq_true, decide_eq_true_eq] at hb
    obtain ⟨⟨⟨h1, h2⟩, h3⟩, h4⟩ := hb
    rcases h with h | h | h
    · omega
    · omega
    · rcases szI_bd (k := k) ok with hz | hz
      · exfalso
        have : capI len f k = 0 := by unfold capI; rw [if_pos (by omega)]
        rw [this, hz, Int.ediv_zero] at h4; omega
      · have := blk_mod hz.2.2.1 h3; omega
theorem blk_no_cap {S : Int} {len : Nat} {f : Nat → Int} {k a : Int} (ok : ClsOk len f) (h : capI len f k = 0) : blkB S len f k a = false := by
  rcases hb : blkB S len f k a with _ | _
  · rfl
  · simp only [blkB, Bool.and_eq_true, decide_eq_true_eq] at hb
    obtain ⟨⟨⟨h1, h2⟩, h3⟩, h4⟩ := hb
    have : 0 ≤ (a - 65536) % 1024 / szI len f k := Int.ediv_nonneg (by omega) (by have := szI_bd (k := k) ok; omega)
    omega
theorem blk_iff {S : Int} {len : Nat} {f : Nat → Int} {k a : Int} (ok : ClsOk len f) (h0 : 65536 ≤ a) (h1 : a < 65536 + 1024 * S) (hc : capI len f k ≠ 0) :
    blkB S len f k a = (adrI S len f k ((a - 65536) / 1024) ((a - 65536) % 1024 / szI len f k) == a) := by
  have hz := szI_bd (k := k) ok
  have hz0 : szI len f k ≠ 0 := fun e => hc (by unfold capI; rw [if_pos (by omega)])
  rw [Bool.eq_iff_iff]
  simp only [blkB, adrI, Bool.and_eq_true, decide_eq_true_eq, beq_iff_eq]
  generalize capI len f k = R at *
  generalize szI len f k = z at *
  have hd := Int.mul_ediv_add_emod ((a - 65536) % 1024) z
  have hq : 0 ≤ (a - 65536) % 1024 / z := Int.ediv_nonneg (by omega) (by omega)
  rw [Int.mul_comm] at hd
  generalize (a - 65536) % 1024 / z = q at *
  generalize (a - 65536) % 1024 % z = r at *
  constructor
  · rintro ⟨⟨⟨_, _⟩, h3⟩, h4⟩
    rw [if_neg (by omega)]
    generalize q * z = p at *
    omega
  · intro h
    split at h
    · omega
    · rename_i hn
      refine ⟨⟨⟨h0, h1⟩, ?_⟩, by omega⟩
      generalize q * z = p at *
      omega

end Go.Proofs.YtkogeeaoppkhkaaDoor
