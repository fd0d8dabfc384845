/-
  Lists of accesses that came in, as the walks take them.
-/
import Derived.Test.YtnjgajkcoahefaaRow64
import Derived.Lib.SmallJoins
import Derived.Deep.Slices
namespace Go.Proofs.Ytnjgajkcoahefaa
open Go.Joins Go.ChangeShapes Go.WideShapes Go.RowKit Go.Deep

/-- A row of accesses: kind, place, word, and what it is held to be. -/
def RowOp (w : World) (a : Option Addr) (len : Nat) (K A : Nat → Int) (X O : Nat → Nat) : Prop :=
  len ≤ maxLen ∧ (0 < len → ∃ b off, a = some ⟨b, off, none⟩ ∧ b < w.heap.size ∧ ∀ j, j < len → w.cell? ⟨b, off + j * 4, none⟩ = some (.int .i64 (K j)) ∧ w.cell? ⟨b, off + j * 4 + 1, none⟩ = some (.int .i64 (A j)) ∧
    w.cell? ⟨b, off + j * 4 + 2, none⟩ = some (.int .u64 ((X j : Nat) : Int)) ∧ w.cell? ⟨b, off + j * 4 + 3, none⟩ = some (.int .u64 ((O j : Nat) : Int)))
theorem RowOp.next {w w' : World} {a : Option Addr} {len : Nat} {K A : Nat → Int} {X O : Nat → Nat} (h : RowOp w a len K A X O) (hb : Below w.heap.size w w') : RowOp w' a len K A X O :=
  ⟨h.1, fun h0 => by
    obtain ⟨b, off, e, hl, hc⟩ := h.2 h0
    refine ⟨b, off, e, Nat.lt_of_lt_of_le hl hb.size, fun j hj => ?_⟩
    obtain ⟨c0, c1, c2, c3⟩ := hc j hj
    exact ⟨(hb.cell (p := ⟨b, off + j * 4, none⟩) hl).trans c0, (hb.cell (p := ⟨b, off + j * 4 + 1, none⟩) hl).trans c1, (hb.cell (p := ⟨b, off + j * 4 + 2, none⟩) hl).trans c2, (hb.cell (p := ⟨b, off + j * 4 + 3, none⟩) hl).trans c3⟩⟩
theorem RowOp.at {w : World} {a : Option Addr} {len j : Nat} {K A : Nat → Int} {X O : Nat → Nat} (h : RowOp w a len K A X O) (hj : j < len) : ∃ b off, a = some ⟨b, off, none⟩ ∧ w.cell? ⟨b, off + j * 4, none⟩ = some (.int .i64 (K j)) ∧ w.cell? ⟨b, off + j * 4 + 1, none⟩ = some (.int .i64 (A j)) ∧
    w.cell? ⟨b, off + j * 4 + 2, none⟩ = some (.int .u64 ((X j : Nat) : Int)) ∧ w.cell? ⟨b, off + j * 4 + 3, none⟩ = some (.int .u64 ((O j : Nat) : Int)) := by
  obtain ⟨b, off, e, _, hc⟩ := h.2 (by omega)
  exact ⟨b, off, e, hc j hj⟩

section
variable {H : Type} {enc : TypeId × Value → H} {w : World} {base : Nat} {spare : Nat → Bool} {held : Bool}
theorem elem_op {n : Nat} {cs : List Value} {y : DataW H × List MemPlace} (h : DataW.trod enc Try.prog w base spare held n 32 cs = some y) (hl : cs.length = 4) :
    ∃ (k a : Int) (x o : Nat), cs = [.int .i64 k, .int .i64 a, .int .u64 (x : Int), .int .u64 (o : Int)] := by
  match cs, hl with
  | [c0, c1, c2, c3], _ =>
    obtain ⟨y0, y1, y2, y3, m, _, _, h0, h1, h2, h3⟩ := trod_struct4 Try.underlying32 h
    have cI : Try.prog.cellsOf 3 = 1 := by kernel_rfl
    have cU : Try.prog.cellsOf 30 = 1 := by kernel_rfl
    simp only [cI, cU, List.drop_zero, List.drop_succ_cons, List.take_succ_cons, List.take_zero] at h0 h1 h2 h3
    obtain ⟨k, e0, _, w0⟩ := DataW.trod_int Try.underlying3 h0
    obtain ⟨a, e1, _, w1⟩ := DataW.trod_int Try.underlying3 h1
    obtain ⟨x, e2, _, w2⟩ := DataW.trod_int Try.underlying30 h2
    obtain ⟨o, e3, _, w3⟩ := DataW.trod_int Try.underlying30 h3
    simp at e0 e1 e2 e3
    subst e0 e1 e2 e3
    have b2 := bounds_u64 w2
    have b3 := bounds_u64 w3
    exact ⟨k, a, x.toNat, o.toNat, by rw [Int.toNat_of_nonneg b2.1, Int.toNat_of_nonneg b3.1]⟩

theorem row_ops {fuel : Nat} {a : Option Addr} {len cap : Nat} {y : DataW H × List MemPlace} (h : DataW.trod enc Try.prog w base spare held fuel 22 [.slice a len cap] = some y) :
    ∃ (K A : Nat → Int) (X O : Nat → Nat), RowOp w a len K A X O := by
  rcases open_slice Try.underlying22 h with ⟨hcs, _⟩ | ⟨x, l, c, m, n, D, Pl, hcs, hb, hl, hm, hmm, _, hx⟩
  · simp at hcs
    obtain ⟨rfl, rfl, rfl⟩ := hcs
    exact ⟨fun _ => 0, fun _ => 0, fun _ => 0, fun _ => 0, Nat.zero_le _, fun h => absurd h (by omega)⟩
  · simp at hcs
    obtain ⟨rfl, rfl, rfl⟩ := hcs
    have cO : Try.prog.cellsOf 32 = 4 := by kernel_rfl
    rw [cO] at hx
    have hlm : len ≤ m := by rw [hmm]; split <;> omega
    obtain ⟨q, hq⟩ := choose_lt (α := Int × Int × Nat × Nat) (n := len) (p := fun i q => w.cell? (x.add (i * 4)) = some (.int .i64 q.1) ∧ w.cell? ((x.add (i * 4)).add 1) = some (.int .i64 q.2.1) ∧ w.cell? ((x.add (i * 4)).add 2) = some (.int .u64 ((q.2.2.1 : Nat) : Int)) ∧ w.cell? ((x.add (i * 4)).add 3) = some (.int .u64 ((q.2.2.2 : Nat) : Int))) (fun i hi => by
      obtain ⟨cs', h1, h2⟩ := hx i (by omega)
      obtain ⟨_, hlen, hcell⟩ := World.cells?_some h1
      obtain ⟨k, a, x', o, rfl⟩ := elem_op h2 hlen
      have e0 := hcell 0 (by omega)
      have e1 := hcell 1 (by omega)
      have e2 := hcell 2 (by omega)
      have e3 := hcell 3 (by omega)
      refine ⟨(k, a, x', o), ?_, e1, e2, e3⟩
      have : (x.add (i * 4)).add 0 = x.add (i * 4) := by unfold Addr.add; split <;> simp_all
      rw [this] at e0
      exact e0)
    refine ⟨fun j => (q j).1, fun j => (q j).2.1, fun j => (q j).2.2.1, fun j => (q j).2.2.2, by omega, fun h0 => ?_⟩
    obtain ⟨b, off, spot⟩ := x
    have hspot : spot = none := by simpa [Addr.add] using World.cell?_spot (hq 0 h0).1
    subst hspot
    have key : ∀ j, j < len → _ := fun j hj => hq j hj
    simp only [Addr.add_lit] at key
    exact ⟨b, off, rfl, World.block_lt_of_cell? w ⟨b, off + 0 * 4, none⟩ (key 0 h0).1, key⟩
end

end Go.Proofs.Ytnjgajkcoahefaa
