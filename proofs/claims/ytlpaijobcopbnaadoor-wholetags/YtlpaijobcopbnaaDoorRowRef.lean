/-
  Lists of references that came in, as the walks take them.
-/
import Derived.Test.YtlpaijobcopbnaaDoorTag5
import Derived.OpenShut
import Derived.Lib.SmallJoins
import Derived.Deep.Slices
namespace Go.Proofs.YtlpaijobcopbnaaDoor
open Go.Joins Go.ChangeShapes Go.WideShapes Go.RowKit Go.Deep

/-- A row of references: the three numbers of each. -/
def RowR (w : World) (a : Option Addr) (len : Nat) (X Y Z : Nat → Int) : Prop :=
  len ≤ maxLen ∧ (0 < len → ∃ b off, a = some ⟨b, off, none⟩ ∧ b < w.heap.size ∧ ∀ j, j < len → w.cell? ⟨b, off + j * 3, none⟩ = some (.int .i64 (X j)) ∧ w.cell? ⟨b, off + j * 3 + 1, none⟩ = some (.int .i64 (Y j)) ∧ w.cell? ⟨b, off + j * 3 + 2, none⟩ = some (.int .i64 (Z j)))
theorem RowR.next {w w' : World} {a : Option Addr} {len : Nat} {X Y Z : Nat → Int} (h : RowR w a len X Y Z) (hb : Below w.heap.size w w') : RowR w' a len X Y Z :=
  ⟨h.1, fun h0 => by
    obtain ⟨b, off, e, hl, hc⟩ := h.2 h0
    refine ⟨b, off, e, Nat.lt_of_lt_of_le hl hb.size, fun j hj => ?_⟩
    obtain ⟨c0, c1, c2⟩ := hc j hj
    exact ⟨(hb.cell (p := ⟨b, off + j * 3, none⟩) hl).trans c0, (hb.cell (p := ⟨b, off + j * 3 + 1, none⟩) hl).trans c1, (hb.cell (p := ⟨b, off + j * 3 + 2, none⟩) hl).trans c2⟩⟩
theorem RowR.at {w : World} {a : Option Addr} {len j : Nat} {X Y Z : Nat → Int} (h : RowR w a len X Y Z) (hj : j < len) : ∃ b off, a = some ⟨b, off, none⟩ ∧ w.cell? ⟨b, off + j * 3, none⟩ = some (.int .i64 (X j)) ∧ w.cell? ⟨b, off + j * 3 + 1, none⟩ = some (.int .i64 (Y j)) ∧ w.cell? ⟨b, off + j * 3 + 2, none⟩ = some (.int .i64 (Z j)) := by
  obtain ⟨b, off, e, _, hc⟩ := h.2 (by omega)
  exact ⟨b, off, e, hc j hj⟩

section
variable {H : Type} {enc : TypeId × Value → H} {w : World} {base : Nat} {spare : Nat → Bool} {held : Bool}
theorem elem_ref {n : Nat} {cs : List Value} {y : DataW H × List MemPlace} (h : DataW.trod enc Tryd.prog w base spare held n 33 cs = some y) (hl : cs.length = 3) :
    ∃ (a b c : Int), cs = [.int .i64 a, .int .i64 b, .int .i64 c] := by
  match cs, hl with
  | [c0, c1, c2], _ =>
    obtain ⟨y0, y1, y2, m, _, _, h0, h1, h2⟩ := trod_struct3 Tryd.underlying33 h
    have cI : Tryd.prog.cellsOf 3 = 1 := by kernel_rfl
    simp only [cI, List.drop_zero, List.drop_succ_cons, List.take_succ_cons, List.take_zero] at h0 h1 h2
    obtain ⟨k, e0, _, w0⟩ := DataW.trod_int Tryd.underlying3 h0
    obtain ⟨a, e1, _, w1⟩ := DataW.trod_int Tryd.underlying3 h1
    obtain ⟨b, e2, _, w2⟩ := DataW.trod_int Tryd.underlying3 h2
    simp at e0 e1 e2
    subst e0 e1 e2
    exact ⟨k, a, b, rfl⟩

theorem row_ref {fuel : Nat} {c : Value} {y : DataW H × List MemPlace} (h : DataW.trod enc Tryd.prog w base spare held fuel 26 [c] = some y) :
    ∃ (a : Option Addr) (len cap : Nat) (X Y Z : Nat → Int), c = .slice a len cap ∧ RowR w a len X Y Z := by
  rcases open_slice Tryd.underlying26 h with ⟨hcs, _⟩ | ⟨x, len, cap, m, n, D, Pl, hcs, hb, hl, hm, hmm, _, hx⟩
  · simp at hcs
    subst hcs
    exact ⟨none, 0, 0, fun _ => 0, fun _ => 0, fun _ => 0, rfl, Nat.zero_le _, fun h => absurd h (by omega)⟩
  · simp at hcs
    subst hcs
    have cO : Tryd.prog.cellsOf 33 = 3 := by kernel_rfl
    rw [cO] at hx
    have hlm : len ≤ m := by rw [hmm]; split <;> omega
    obtain ⟨q, hq⟩ := choose_lt (α := Int × Int × Int) (n := len) (p := fun i q => w.cell? (x.add (i * 3)) = some (.int .i64 q.1) ∧ w.cell? ((x.add (i * 3)).add 1) = some (.int .i64 q.2.1) ∧ w.cell? ((x.add (i * 3)).add 2) = some (.int .i64 q.2.2)) (fun i hi => by
      obtain ⟨cs', h1, h2⟩ := hx i (by omega)
      obtain ⟨_, hlen, hcell⟩ := World.cells?_some h1
      obtain ⟨k, a, b, rfl⟩ := elem_ref h2 hlen
      have e0 := hcell 0 (by omega)
      have e1 := hcell 1 (by omega)
      have e2 := hcell 2 (by omega)
      refine ⟨(k, a, b), ?_, e1, e2⟩
      have : (x.add (i * 3)).add 0 = x.add (i * 3) := by unfold Addr.add; split <;> simp_all
      rw [this] at e0
      exact e0)
    refine ⟨some x, len, cap, fun j => (q j).1, fun j => (q j).2.1, fun j => (q j).2.2, rfl, by omega, fun h0 => ?_⟩
    obtain ⟨b, off, spot⟩ := x
    have hspot : spot = none := by simpa [Addr.add] using World.cell?_spot (hq 0 h0).1
    subst hspot
    have key : ∀ j, j < len → _ := fun j hj => hq j hj
    simp only [Addr.add_lit] at key
    exact ⟨b, off, rfl, World.block_lt_of_cell? w ⟨b, off + 0 * 3, none⟩ (key 0 h0).1, key⟩
end

end Go.Proofs.YtlpaijobcopbnaaDoor
