/-
  Lists of things that came in, as the walks take them.
-/
import Derived.Test.YtchkgmknhndccaaDoorConf2
import Derived.Lib.SmallJoins
import Derived.Deep.Slices
namespace Go.Proofs.YtchkgmknhndccaaDoor
open Go.Joins Go.ChangeShapes Go.WideShapes Go.RowKit Go.Deep

/-- A row of things: of which class each is, and of how many superblocks. -/
def RowTh (w : World) (a : Option Addr) (len : Nat) (A B : Nat → Int) : Prop :=
  len ≤ maxLen ∧ (0 < len → ∃ b off, a = some ⟨b, off, none⟩ ∧ b < w.heap.size ∧ ∀ j, j < len → w.cell? ⟨b, off + j * 2, none⟩ = some (.int .i64 (A j)) ∧ w.cell? ⟨b, off + j * 2 + 1, none⟩ = some (.int .i64 (B j)))
theorem RowTh.next {w w' : World} {a : Option Addr} {len : Nat} {A B : Nat → Int} (h : RowTh w a len A B) (hb : Below w.heap.size w w') : RowTh w' a len A B :=
  ⟨h.1, fun h0 => by
    obtain ⟨b, off, e, hl, hc⟩ := h.2 h0
    refine ⟨b, off, e, Nat.lt_of_lt_of_le hl hb.size, fun j hj => ?_⟩
    obtain ⟨c0, c1⟩ := hc j hj
    exact ⟨(hb.cell (p := ⟨b, off + j * 2, none⟩) hl).trans c0, (hb.cell (p := ⟨b, off + j * 2 + 1, none⟩) hl).trans c1⟩⟩
theorem RowTh.at {w : World} {a : Option Addr} {len j : Nat} {A B : Nat → Int} (h : RowTh w a len A B) (hj : j < len) : ∃ b off, a = some ⟨b, off, none⟩ ∧ w.cell? ⟨b, off + j * 2, none⟩ = some (.int .i64 (A j)) ∧ w.cell? ⟨b, off + j * 2 + 1, none⟩ = some (.int .i64 (B j)) := by
  obtain ⟨b, off, e, _, hc⟩ := h.2 (by omega)
  exact ⟨b, off, e, hc j hj⟩

section
variable {H : Type} {enc : TypeId × Value → H} {w : World} {base : Nat} {spare : Nat → Bool} {held : Bool}
theorem elem_th {n : Nat} {cs : List Value} {y : DataW H × List MemPlace} (h : DataW.trod enc Tryd.prog w base spare held n 35 cs = some y) (hl : cs.length = 2) :
    ∃ (a b : Int), cs = [.int .i64 a, .int .i64 b] := by
  match cs, hl with
  | [c0, c1], _ =>
    obtain ⟨y0, y1, m, _, _, h0, h1⟩ := trod_struct2 Tryd.underlying35 h
    have cI : Tryd.prog.cellsOf 3 = 1 := by kernel_rfl
    simp only [cI, List.drop_zero, List.drop_succ_cons, List.take_succ_cons, List.take_zero] at h0 h1
    obtain ⟨k, e0, _, w0⟩ := DataW.trod_int Tryd.underlying3 h0
    obtain ⟨a, e1, _, w1⟩ := DataW.trod_int Tryd.underlying3 h1
    simp at e0 e1
    subst e0 e1
    exact ⟨k, a, rfl⟩

theorem row_th {fuel : Nat} {a : Option Addr} {len cap : Nat} {y : DataW H × List MemPlace} (h : DataW.trod enc Tryd.prog w base spare held fuel 58 [.slice a len cap] = some y) :
    ∃ (A B : Nat → Int), RowTh w a len A B := by
  rcases open_slice Tryd.underlying58 h with ⟨hcs, _⟩ | ⟨x, l, c, m, n, D, Pl, hcs, hb, hl, hm, hmm, _, hx⟩
  · simp at hcs
    obtain ⟨rfl, rfl, rfl⟩ := hcs
    exact ⟨fun _ => 0, fun _ => 0, Nat.zero_le _, fun h => absurd h (by omega)⟩
  · simp at hcs
    obtain ⟨rfl, rfl, rfl⟩ := hcs
    have cO : Tryd.prog.cellsOf 35 = 2 := by kernel_rfl
    rw [cO] at hx
    have hlm : len ≤ m := by rw [hmm]; split <;> omega
    obtain ⟨q, hq⟩ := choose_lt (α := Int × Int) (n := len) (p := fun i q => w.cell? (x.add (i * 2)) = some (.int .i64 q.1) ∧ w.cell? ((x.add (i * 2)).add 1) = some (.int .i64 q.2)) (fun i hi => by
      obtain ⟨cs', h1, h2⟩ := hx i (by omega)
      obtain ⟨_, hlen, hcell⟩ := World.cells?_some h1
      obtain ⟨k, a, rfl⟩ := elem_th h2 hlen
      have e0 := hcell 0 (by omega)
      have e1 := hcell 1 (by omega)
      refine ⟨(k, a), ?_, e1⟩
      have : (x.add (i * 2)).add 0 = x.add (i * 2) := by unfold Addr.add; split <;> simp_all
      rw [this] at e0
      exact e0)
    refine ⟨fun j => (q j).1, fun j => (q j).2, by omega, fun h0 => ?_⟩
    obtain ⟨b, off, spot⟩ := x
    have hspot : spot = none := by simpa [Addr.add] using World.cell?_spot (hq 0 h0).1
    subst hspot
    have key : ∀ j, j < len → _ := fun j hj => hq j hj
    simp only [Addr.add_lit] at key
    exact ⟨b, off, rfl, World.block_lt_of_cell? w ⟨b, off + 0 * 2, none⟩ (key 0 h0).1, key⟩
end

end Go.Proofs.YtchkgmknhndccaaDoor
