/-
  Lists of api.Block that came in, as the walks take them (printed by mkrow.py).
-/
import Derived.Test.YtehmeccjgjhidaaDoorConfM
import Derived.Lib.SmallJoins
import Derived.Deep.Slices
import Derived.Deep.Strs
namespace Go.Proofs.YtehmeccjgjhidaaDoor
open Go.Joins Go.ChangeShapes Go.WideShapes Go.RowKit Go.Deep

def RowBk (w : World) (a : Option Addr) (len : Nat) (Z0 Z1 : Nat → Int) : Prop :=
  (len ≤ maxLen ∧ ∀ j, j < len → (Lit.int .i64 (Z0 j)).wf = true ∧ (Lit.int .i64 (Z1 j)).wf = true) ∧ (0 < len → ∃ b off, a = some ⟨b, off, none⟩ ∧ b < w.heap.size ∧ ∀ j, j < len → w.cell? ⟨b, off + j * 2, none⟩ = some (.int .i64 (Z0 j)) ∧ w.cell? ⟨b, off + j * 2 + 1, none⟩ = some (.int .i64 (Z1 j)))
theorem RowBk.next {w w' : World} {a : Option Addr} {len : Nat} {Z0 Z1 : Nat → Int} (h : RowBk w a len Z0 Z1) (hb : Below w.heap.size w w') : RowBk w' a len Z0 Z1 :=
  ⟨h.1, fun h0 => by
    obtain ⟨b, off, e, hl, hc⟩ := h.2 h0
    refine ⟨b, off, e, Nat.lt_of_lt_of_le hl hb.size, fun j hj => ?_⟩
    obtain ⟨c0, c1⟩ := hc j hj
    exact ⟨(hb.cell (p := ⟨b, off + j * 2, none⟩) hl).trans c0, (hb.cell (p := ⟨b, off + j * 2 + 1, none⟩) hl).trans c1⟩⟩
theorem RowBk.at {w : World} {a : Option Addr} {len j : Nat} {Z0 Z1 : Nat → Int} (h : RowBk w a len Z0 Z1) (hj : j < len) : ∃ b off, a = some ⟨b, off, none⟩ ∧ b < w.heap.size ∧ w.cell? ⟨b, off + j * 2, none⟩ = some (.int .i64 (Z0 j)) ∧ w.cell? ⟨b, off + j * 2 + 1, none⟩ = some (.int .i64 (Z1 j)) := by
  obtain ⟨b, off, e, hl, hc⟩ := h.2 (by omega)
  exact ⟨b, off, e, hl, hc j hj⟩

section
variable {H : Type} {enc : TypeId × Value → H} {w : World} {base : Nat} {spare : Nat → Bool} {held : Bool}
theorem elem_Bk {n : Nat} {cs : List Value} {y : DataW H × List MemPlace} (h : DataW.trod enc Tryd.prog w base spare held n 32 cs = some y) (hl : cs.length = 2) :
    ∃ (z0 z1 : Int), cs = [.int .i64 z0, .int .i64 z1] ∧ (Lit.int .i64 z0).wf = true ∧ (Lit.int .i64 z1).wf = true := by
  match cs, hl with
  | [c0, c1], _ =>
    have q0 : Tryd.prog.cellsOf 3 = 1 := by kernel_rfl
    obtain ⟨y1_0, y1_1, m1, _, _, h1_0, h1_1⟩ := trod_struct2 Tryd.underlying32 h
    simp only [q0, List.drop_zero, List.drop_succ_cons, List.take_succ_cons, List.take_zero] at h1_0 h1_1
    obtain ⟨z0, e0, _, w0⟩ := DataW.trod_int Tryd.underlying3 h1_0
    obtain ⟨z1, e1, _, w1⟩ := DataW.trod_int Tryd.underlying3 h1_1
    simp at e0 e1
    subst e0 e1
    exact ⟨z0, z1, rfl, w0, w1⟩
theorem row_Bk {fuel : Nat} {a : Option Addr} {len cap : Nat} {y : DataW H × List MemPlace} (h : DataW.trod enc Tryd.prog w base spare held fuel 25 [.slice a len cap] = some y) :
    ∃ (Z0 Z1 : Nat → Int), RowBk w a len Z0 Z1 := by
  rcases open_slice Tryd.underlying25 h with ⟨hcs, _⟩ | ⟨x, l, c, m, n, D, Pl, hcs, hb, hl, hm, hmm, _, hx⟩
  · simp at hcs
    obtain ⟨rfl, rfl, rfl⟩ := hcs
    exact ⟨fun _ => 0, fun _ => 0, ⟨Nat.zero_le _, fun _ h => absurd h (by omega)⟩, fun h => absurd h (by omega)⟩
  · simp at hcs
    obtain ⟨rfl, rfl, rfl⟩ := hcs
    have cO : Tryd.prog.cellsOf 32 = 2 := by kernel_rfl
    rw [cO] at hx
    have hlm : len ≤ m := by rw [hmm]; split <;> omega
    obtain ⟨q, hq⟩ := choose_lt (α := Int × Int) (n := len) (p := fun i q => w.cell? (x.add (i * 2)) = some (.int .i64 q.1) ∧ w.cell? ((x.add (i * 2)).add 1) = some (.int .i64 q.2) ∧ (Lit.int .i64 q.1).wf = true ∧ (Lit.int .i64 q.2).wf = true) (fun i hi => by
      obtain ⟨cs', h1, h2⟩ := hx i (by omega)
      obtain ⟨_, hlen, hcell⟩ := World.cells?_some h1
      obtain ⟨z0, z1, rfl, w0, w1⟩ := elem_Bk h2 hlen
      have e0 := hcell 0 (by omega)
      have e1 := hcell 1 (by omega)
      refine ⟨(z0, z1), ?_, e1, w0, w1⟩
      have : (x.add (i * 2)).add 0 = x.add (i * 2) := by unfold Addr.add; split <;> simp_all
      rw [this] at e0
      exact e0)
    refine ⟨fun j => (q j).1, fun j => (q j).2, ⟨by omega, fun j hj => ?_⟩, fun h0 => ?_⟩
    · obtain ⟨_, _, w0, w1⟩ := hq j hj
      exact ⟨w0, w1⟩
    · obtain ⟨b, off, spot⟩ := x
      have hspot : spot = none := by simpa [Addr.add] using World.cell?_spot (hq 0 h0).1
      subst hspot
      have key : ∀ j, j < len → _ := fun j hj => hq j hj
      simp only [Addr.add_lit] at key
      refine ⟨b, off, rfl, World.block_lt_of_cell? w ⟨b, off + 0 * 2, none⟩ (key 0 h0).1, fun j hj => ?_⟩
      obtain ⟨e0, e1, _, _⟩ := key j hj
      exact ⟨e0, e1⟩
end
end Go.Proofs.YtehmeccjgjhidaaDoor
