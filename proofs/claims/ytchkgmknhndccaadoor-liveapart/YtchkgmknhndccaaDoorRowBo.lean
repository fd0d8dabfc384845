/-
  Lists of Booleans that came in, as the walks take them.
-/
import Derived.Test.YtchkgmknhndccaaDoorConf2
import Derived.Lib.SmallJoins
import Derived.Deep.Slices
namespace Go.Proofs.YtchkgmknhndccaaDoor
open Go.Joins Go.ChangeShapes Go.WideShapes Go.RowKit Go.Deep

/-- A row of Booleans. -/
def RowBo (w : World) (a : Option Addr) (len : Nat) (F : Nat → Bool) : Prop :=
  len ≤ maxLen ∧ (0 < len → ∃ b off, a = some ⟨b, off, none⟩ ∧ b < w.heap.size ∧ ∀ j, j < len → w.cell? ⟨b, off + j, none⟩ = some (.bool (F j)))
theorem RowBo.next {w w' : World} {a : Option Addr} {len : Nat} {F : Nat → Bool} (h : RowBo w a len F) (hb : Below w.heap.size w w') : RowBo w' a len F :=
  ⟨h.1, fun h0 => by
    obtain ⟨b, off, e, hl, hc⟩ := h.2 h0
    exact ⟨b, off, e, Nat.lt_of_lt_of_le hl hb.size, fun j hj => (hb.cell (p := ⟨b, off + j, none⟩) hl).trans (hc j hj)⟩⟩
theorem RowBo.at {w : World} {a : Option Addr} {len j : Nat} {F : Nat → Bool} (h : RowBo w a len F) (hj : j < len) : ∃ b off, a = some ⟨b, off, none⟩ ∧ w.cell? ⟨b, off + j, none⟩ = some (.bool (F j)) := by
  obtain ⟨b, off, e, _, hc⟩ := h.2 (by omega)
  exact ⟨b, off, e, hc j hj⟩

section
variable {H : Type} {enc : TypeId × Value → H} {w : World} {base : Nat} {spare : Nat → Bool} {held : Bool}
theorem row_bo {fuel : Nat} {a : Option Addr} {len cap : Nat} {y : DataW H × List MemPlace} (h : DataW.trod enc Tryd.prog w base spare held fuel 56 [.slice a len cap] = some y) : ∃ (F : Nat → Bool), RowBo w a len F := by
  rcases open_slice Tryd.underlying56 h with ⟨hcs, _⟩ | ⟨x, l, c, m, n, D, Pl, hcs, hb, hl, hm, hmm, _, hx⟩
  · simp at hcs
    obtain ⟨rfl, rfl, rfl⟩ := hcs
    exact ⟨fun _ => false, Nat.zero_le _, fun h => absurd h (by omega)⟩
  · simp at hcs
    obtain ⟨rfl, rfl, rfl⟩ := hcs
    have cO : Tryd.prog.cellsOf 4 = 1 := by kernel_rfl
    rw [cO] at hx
    have hlm : len ≤ m := by rw [hmm]; split <;> omega
    obtain ⟨q, hq⟩ := choose_lt (α := Bool) (n := len) (p := fun i q => w.cell? (x.add (i * 1)) = some (.bool q)) (fun i hi => by
      obtain ⟨cs', h1, h2⟩ := hx i (by omega)
      obtain ⟨_, hlen, hcell⟩ := World.cells?_some h1
      match cs', hlen with
      | [c0], _ =>
        obtain ⟨k, e0, _⟩ := DataW.trod_bool Tryd.underlying4 h2
        simp at e0
        subst e0
        have e0 := hcell 0 (by omega)
        refine ⟨k, ?_⟩
        have : (x.add (i * 1)).add 0 = x.add (i * 1) := by unfold Addr.add; split <;> simp_all
        rw [this] at e0
        exact e0)
    refine ⟨q, by omega, fun h0 => ?_⟩
    obtain ⟨b, off, spot⟩ := x
    have hspot : spot = none := by simpa [Addr.add] using World.cell?_spot (hq 0 h0)
    subst hspot
    have key : ∀ j, j < len → _ := fun j hj => hq j hj
    simp only [Addr.add_lit, Nat.mul_one] at key
    exact ⟨b, off, rfl, World.block_lt_of_cell? w ⟨b, off + 0, none⟩ (key 0 h0), key⟩
end

end Go.Proofs.YtchkgmknhndccaaDoor
