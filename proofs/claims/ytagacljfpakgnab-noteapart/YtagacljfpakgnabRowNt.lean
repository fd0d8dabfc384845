/-
  Lists of chandlerylaw18.Act that came in, as the walks take them (printed by mkrow.py).
-/
import Derived.Test.YtagacljfpakgnabTrod5
import Derived.Lib.SmallJoins
import Derived.Deep.Slices
import Derived.Deep.Strs
namespace Go.Proofs.Ytagacljfpakgnab
open Go.Joins Go.ChangeShapes Go.WideShapes Go.RowKit Go.Deep

def RowNt (w : World) (a : Option Addr) (len : Nat) (Z0 Z1 Z2 Z3 Z4 Z5 Z6 : Nat → Int) : Prop :=
  (len ≤ maxLen ∧ ∀ j, j < len → (Lit.int .i64 (Z0 j)).wf = true ∧ (Lit.int .i64 (Z1 j)).wf = true ∧ (Lit.int .i64 (Z2 j)).wf = true ∧ (Lit.int .i64 (Z3 j)).wf = true ∧ (Lit.int .i64 (Z4 j)).wf = true ∧ (Lit.int .i64 (Z5 j)).wf = true ∧ (Lit.int .i64 (Z6 j)).wf = true) ∧ (0 < len → ∃ b off, a = some ⟨b, off, none⟩ ∧ b < w.heap.size ∧ ∀ j, j < len → w.cell? ⟨b, off + j * 7, none⟩ = some (.int .i64 (Z0 j)) ∧ w.cell? ⟨b, off + j * 7 + 1, none⟩ = some (.int .i64 (Z1 j)) ∧ w.cell? ⟨b, off + j * 7 + 2, none⟩ = some (.int .i64 (Z2 j)) ∧ w.cell? ⟨b, off + j * 7 + 3, none⟩ = some (.int .i64 (Z3 j)) ∧ w.cell? ⟨b, off + j * 7 + 4, none⟩ = some (.int .i64 (Z4 j)) ∧ w.cell? ⟨b, off + j * 7 + 5, none⟩ = some (.int .i64 (Z5 j)) ∧ w.cell? ⟨b, off + j * 7 + 6, none⟩ = some (.int .i64 (Z6 j)))
theorem RowNt.next {w w' : World} {a : Option Addr} {len : Nat} {Z0 Z1 Z2 Z3 Z4 Z5 Z6 : Nat → Int} (h : RowNt w a len Z0 Z1 Z2 Z3 Z4 Z5 Z6) (hb : Below w.heap.size w w') : RowNt w' a len Z0 Z1 Z2 Z3 Z4 Z5 Z6 :=
  ⟨h.1, fun h0 => by
    obtain ⟨b, off, e, hl, hc⟩ := h.2 h0
    refine ⟨b, off, e, Nat.lt_of_lt_of_le hl hb.size, fun j hj => ?_⟩
    obtain ⟨c0, c1, c2, c3, c4, c5, c6⟩ := hc j hj
    exact ⟨(hb.cell (p := ⟨b, off + j * 7, none⟩) hl).trans c0, (hb.cell (p := ⟨b, off + j * 7 + 1, none⟩) hl).trans c1, (hb.cell (p := ⟨b, off + j * 7 + 2, none⟩) hl).trans c2, (hb.cell (p := ⟨b, off + j * 7 + 3, none⟩) hl).trans c3, (hb.cell (p := ⟨b, off + j * 7 + 4, none⟩) hl).trans c4, (hb.cell (p := ⟨b, off + j * 7 + 5, none⟩) hl).trans c5, (hb.cell (p := ⟨b, off + j * 7 + 6, none⟩) hl).trans c6⟩⟩
theorem RowNt.at {w : World} {a : Option Addr} {len j : Nat} {Z0 Z1 Z2 Z3 Z4 Z5 Z6 : Nat → Int} (h : RowNt w a len Z0 Z1 Z2 Z3 Z4 Z5 Z6) (hj : j < len) : ∃ b off, a = some ⟨b, off, none⟩ ∧ b < w.heap.size ∧ w.cell? ⟨b, off + j * 7, none⟩ = some (.int .i64 (Z0 j)) ∧ w.cell? ⟨b, off + j * 7 + 1, none⟩ = some (.int .i64 (Z1 j)) ∧ w.cell? ⟨b, off + j * 7 + 2, none⟩ = some (.int .i64 (Z2 j)) ∧ w.cell? ⟨b, off + j * 7 + 3, none⟩ = some (.int .i64 (Z3 j)) ∧ w.cell? ⟨b, off + j * 7 + 4, none⟩ = some (.int .i64 (Z4 j)) ∧ w.cell? ⟨b, off + j * 7 + 5, none⟩ = some (.int .i64 (Z5 j)) ∧ w.cell? ⟨b, off + j * 7 + 6, none⟩ = some (.int .i64 (Z6 j)) := by
  obtain ⟨b, off, e, hl, hc⟩ := h.2 (by omega)
  exact ⟨b, off, e, hl, hc j hj⟩

section
variable {H : Type} {enc : TypeId × Value → H} {w : World} {base : Nat} {spare : Nat → Bool} {held : Bool}
theorem elem_Nt {n : Nat} {cs : List Value} {y : DataW H × List MemPlace} (h : DataW.trod enc Try.prog w base spare held n 34 cs = some y) (hl : cs.length = 7) :
    ∃ (z0 z1 z2 z3 z4 z5 z6 : Int), cs = [.int .i64 z0, .int .i64 z1, .int .i64 z2, .int .i64 z3, .int .i64 z4, .int .i64 z5, .int .i64 z6] ∧ (Lit.int .i64 z0).wf = true ∧ (Lit.int .i64 z1).wf = true ∧ (Lit.int .i64 z2).wf = true ∧ (Lit.int .i64 z3).wf = true ∧ (Lit.int .i64 z4).wf = true ∧ (Lit.int .i64 z5).wf = true ∧ (Lit.int .i64 z6).wf = true := by
  match cs, hl with
  | [c0, c1, c2, c3, c4, c5, c6], _ =>
    have q0 : Try.prog.cellsOf 32 = 2 := by kernel_rfl
    have q1 : Try.prog.cellsOf 30 = 1 := by kernel_rfl
    have q2 : Try.prog.cellsOf 29 = 2 := by kernel_rfl
    have q3 : Try.prog.cellsOf 3 = 1 := by kernel_rfl
    obtain ⟨y1_0, y1_1, y1_2, y1_3, y1_4, m1, h1_0, h1_1, h1_2, h1_3, h1_4⟩ := trod_struct5n Try.underlying34 h
    simp only [q0, q2, q3, List.drop_zero, List.drop_succ_cons, List.take_succ_cons, List.take_zero] at h1_0 h1_1 h1_2 h1_3 h1_4
    obtain ⟨y2_0, y2_1, m2, _, _, h2_0, h2_1⟩ := trod_struct2 Try.underlying29 h1_3
    simp only [q3, List.drop_zero, List.drop_succ_cons, List.take_succ_cons, List.take_zero] at h2_0 h2_1
    obtain ⟨y3_0, y3_1, m3, _, _, h3_0, h3_1⟩ := trod_struct2 Try.underlying32 h1_4
    simp only [q1, q3, List.drop_zero, List.drop_succ_cons, List.take_succ_cons, List.take_zero] at h3_0 h3_1
    obtain ⟨z0, e0, _, w0⟩ := DataW.trod_int Try.underlying3 h1_0
    obtain ⟨z1, e1, _, w1⟩ := DataW.trod_int Try.underlying3 h1_1
    obtain ⟨z2, e2, _, w2⟩ := DataW.trod_int Try.underlying3 h1_2
    obtain ⟨z3, e3, _, w3⟩ := DataW.trod_int Try.underlying3 h2_0
    obtain ⟨z4, e4, _, w4⟩ := DataW.trod_int Try.underlying3 h2_1
    obtain ⟨z5, e5, _, w5⟩ := DataW.trod_int Try.underlying30 h3_0
    obtain ⟨z6, e6, _, w6⟩ := DataW.trod_int Try.underlying3 h3_1
    simp at e0 e1 e2 e3 e4 e5 e6
    subst e0 e1 e2 e3 e4 e5 e6
    exact ⟨z0, z1, z2, z3, z4, z5, z6, rfl, w0, w1, w2, w3, w4, w5, w6⟩
theorem row_Nt {fuel : Nat} {a : Option Addr} {len cap : Nat} {y : DataW H × List MemPlace} (h : DataW.trod enc Try.prog w base spare held fuel 22 [.slice a len cap] = some y) :
    ∃ (Z0 Z1 Z2 Z3 Z4 Z5 Z6 : Nat → Int), RowNt w a len Z0 Z1 Z2 Z3 Z4 Z5 Z6 := by
  rcases open_slice Try.underlying22 h with ⟨hcs, _⟩ | ⟨x, l, c, m, n, D, Pl, hcs, hb, hl, hm, hmm, _, hx⟩
  · simp at hcs
    obtain ⟨rfl, rfl, rfl⟩ := hcs
    exact ⟨fun _ => 0, fun _ => 0, fun _ => 0, fun _ => 0, fun _ => 0, fun _ => 0, fun _ => 0, ⟨Nat.zero_le _, fun _ h => absurd h (by omega)⟩, fun h => absurd h (by omega)⟩
  · simp at hcs
    obtain ⟨rfl, rfl, rfl⟩ := hcs
    have cO : Try.prog.cellsOf 34 = 7 := by kernel_rfl
    rw [cO] at hx
    have hlm : len ≤ m := by rw [hmm]; split <;> omega
    obtain ⟨q, hq⟩ := choose_lt (α := Int × Int × Int × Int × Int × Int × Int) (n := len) (p := fun i q => w.cell? (x.add (i * 7)) = some (.int .i64 q.1) ∧ w.cell? ((x.add (i * 7)).add 1) = some (.int .i64 q.2.1) ∧ w.cell? ((x.add (i * 7)).add 2) = some (.int .i64 q.2.2.1) ∧ w.cell? ((x.add (i * 7)).add 3) = some (.int .i64 q.2.2.2.1) ∧ w.cell? ((x.add (i * 7)).add 4) = some (.int .i64 q.2.2.2.2.1) ∧ w.cell? ((x.add (i * 7)).add 5) = some (.int .i64 q.2.2.2.2.2.1) ∧ w.cell? ((x.add (i * 7)).add 6) = some (.int .i64 q.2.2.2.2.2.2) ∧ (Lit.int .i64 q.1).wf = true ∧ (Lit.int .i64 q.2.1).wf = true ∧ (Lit.int .i64 q.2.2.1).wf = true ∧ (Lit.int .i64 q.2.2.2.1).wf = true ∧ (Lit.int .i64 q.2.2.2.2.1).wf = true ∧ (Lit.int .i64 q.2.2.2.2.2.1).wf = true ∧ (Lit.int .i64 q.2.2.2.2.2.2).wf = true) (fun i hi => by
      obtain ⟨cs', h1, h2⟩ := hx i (by omega)
      obtain ⟨_, hlen, hcell⟩ := World.cells?_some h1
      obtain ⟨z0, z1, z2, z3, z4, z5, z6, rfl, w0, w1, w2, w3, w4, w5, w6⟩ := elem_Nt h2 hlen
      have e0 := hcell 0 (by omega)
      have e1 := hcell 1 (by omega)
      have e2 := hcell 2 (by omega)
      have e3 := hcell 3 (by omega)
      have e4 := hcell 4 (by omega)
      have e5 := hcell 5 (by omega)
      have e6 := hcell 6 (by omega)
      refine ⟨(z0, z1, z2, z3, z4, z5, z6), ?_, e1, e2, e3, e4, e5, e6, w0, w1, w2, w3, w4, w5, w6⟩
      have : (x.add (i * 7)).add 0 = x.add (i * 7) := by unfold Addr.add; split <;> simp_all
      rw [this] at e0
      exact e0)
    refine ⟨fun j => (q j).1, fun j => (q j).2.1, fun j => (q j).2.2.1, fun j => (q j).2.2.2.1, fun j => (q j).2.2.2.2.1, fun j => (q j).2.2.2.2.2.1, fun j => (q j).2.2.2.2.2.2, ⟨by omega, fun j hj => ?_⟩, fun h0 => ?_⟩
    · obtain ⟨_, _, _, _, _, _, _, w0, w1, w2, w3, w4, w5, w6⟩ := hq j hj
      exact ⟨w0, w1, w2, w3, w4, w5, w6⟩
    · obtain ⟨b, off, spot⟩ := x
      have hspot : spot = none := by simpa [Addr.add] using World.cell?_spot (hq 0 h0).1
      subst hspot
      have key : ∀ j, j < len → _ := fun j hj => hq j hj
      simp only [Addr.add_lit] at key
      refine ⟨b, off, rfl, World.block_lt_of_cell? w ⟨b, off + 0 * 7, none⟩ (key 0 h0).1, fun j hj => ?_⟩
      obtain ⟨e0, e1, e2, e3, e4, e5, e6, _, _, _, _, _, _, _⟩ := key j hj
      exact ⟨e0, e1, e2, e3, e4, e5, e6⟩
end
end Go.Proofs.Ytagacljfpakgnab
