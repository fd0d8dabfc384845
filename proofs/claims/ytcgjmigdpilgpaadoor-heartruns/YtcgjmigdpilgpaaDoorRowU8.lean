/-
  Lists of bytes that came in, as the walks take them.
-/
import Derived.Test.YtcgjmigdpilgpaaDoorConf2
import Derived.Lib.SmallJoins
namespace Go.Proofs.YtcgjmigdpilgpaaDoor
open Go.Joins Go.ChangeShapes Go.WideShapes Go.RowKit Go.Deep

/-- A row of bytes. -/
structure RowU (w : World) (a : Option Addr) (len : Nat) (f : Nat → Nat) : Prop where
  le : len ≤ maxLen
  row : 0 < len → ∃ b off, a = some ⟨b, off, none⟩ ∧ b < w.heap.size ∧ ∀ j, j < len → w.cell? ⟨b, off + j, none⟩ = some (.int .u8 ((f j : Nat) : Int))
  small : ∀ j, j < len → f j < 256
theorem RowU.next {w w' : World} {a : Option Addr} {len : Nat} {f : Nat → Nat} (h : RowU w a len f) (hb : Below w.heap.size w w') : RowU w' a len f :=
  ⟨h.le, fun h0 => by
    obtain ⟨b, off, e, hl, hc⟩ := h.row h0
    exact ⟨b, off, e, Nat.lt_of_lt_of_le hl hb.size, fun j hj => (hb.cell (p := ⟨b, off + j, none⟩) hl).trans (hc j hj)⟩, h.small⟩
theorem RowU.at {w : World} {a : Option Addr} {len j : Nat} {f : Nat → Nat} (h : RowU w a len f) (hj : j < len) : ∃ b off, a = some ⟨b, off, none⟩ ∧ w.cell? ⟨b, off + j, none⟩ = some (.int .u8 ((f j : Nat) : Int)) := by
  obtain ⟨b, off, e, _, hc⟩ := h.row (by omega)
  exact ⟨b, off, e, hc j hj⟩
section
variable {H : Type} {enc : TypeId × Value → H} {w : World} {base : Nat} {spare : Nat → Bool} {held : Bool}
theorem row_u8 {fuel : Nat} {a : Option Addr} {len cap : Nat} {y : DataW H × List MemPlace} (h : DataW.trod enc Tryd.prog w base spare held fuel 54 [.slice a len cap] = some y) : ∃ f, RowU w a len f := by
  rcases open_ints Tryd.underlying54 Tryd.underlying5 (by kernel_rfl) h with ⟨hcs, _⟩ | ⟨x, l, c, zs, hcs, _, hl, hm, hz, _, hcell, hwz⟩
  · simp at hcs
    obtain ⟨rfl, rfl, rfl⟩ := hcs
    exact ⟨fun _ => 0, Nat.zero_le _, fun h => absurd h (by omega), fun _ h => absurd h (by omega)⟩
  · simp at hcs
    obtain ⟨rfl, rfl, rfl⟩ := hcs
    have hz' : len ≤ zs.length := by rw [hz]; split <;> omega
    have hb : ∀ j, j < len → 0 ≤ zs.getD j 0 ∧ zs.getD j 0 ≤ 255 := fun j hj => by
      have hm : zs.getD j 0 ∈ zs := by rw [List.getD_eq_getElem?_getD, List.getElem?_eq_getElem (by omega), Option.getD_some]; exact List.getElem_mem _
      have := bounds_u8 (hwz _ hm)
      omega
    refine ⟨fun j => (zs.getD j 0).toNat, by omega, fun h0 => ?_, fun j hj => by have := hb j hj; show (zs.getD j 0).toNat < 256; omega⟩
    obtain ⟨b, off, rfl, hc⟩ := ints_at hcell (by omega)
    exact ⟨b, off, rfl, World.block_lt_of_cell? w ⟨b, off + 0, none⟩ (hc 0 (by omega)), fun j hj => by rw [hc j (by omega), Int.toNat_of_nonneg (hb j hj).1]⟩
end

end Go.Proofs.YtcgjmigdpilgpaaDoor
