/-
  Lists of what is done, that came in, as the walks of layer 13 take them.
-/
import Derived.Test.YtchkgmknhndccaaDoorRowAct
import Derived.Deep.Strs
namespace Go.Proofs.YtchkgmknhndccaaDoor
open Go.Joins Go.ChangeShapes Go.WideShapes Go.RowKit Go.Deep

section
variable {H : Type} {enc : TypeId × Value → H} {w : World} {base : Nat} {spare : Nat → Bool} {held : Bool}
theorem elem_ac {n : Nat} {cs : List Value} {y : DataW H × List MemPlace} (h : DataW.trod enc Tryd.prog w base spare held n 37 cs = some y) (hl : cs.length = 4) :
    ∃ (k a b c : Int), cs = [.int .i64 k, .int .i64 a, .int .i64 b, .int .i64 c] ∧ (Lit.int .i64 a).wf = true := by
  match cs, hl with
  | [c0, c1, c2, c3], _ =>
    obtain ⟨y0, y1, y2, m, _, _, h0, h1, h2⟩ := trod_struct3 Tryd.underlying37 h
    have cI : Tryd.prog.cellsOf 3 = 1 := by kernel_rfl
    have cV : Tryd.prog.cellsOf 35 = 2 := by kernel_rfl
    simp only [cI, cV, List.drop_zero, List.drop_succ_cons, List.take_succ_cons, List.take_zero] at h0 h1 h2
    obtain ⟨k, e0, _, _⟩ := DataW.trod_int Tryd.underlying3 h0
    obtain ⟨a, e1, _, wa⟩ := DataW.trod_int Tryd.underlying3 h1
    obtain ⟨b, c, e2⟩ := elem_th h2 rfl
    simp at e0 e1 e2
    obtain ⟨e2, e3⟩ := e2
    subst e0 e1 e2 e3
    exact ⟨k, a, b, c, rfl, wa⟩
theorem row_ac {fuel : Nat} {a : Option Addr} {len cap : Nat} {y : DataW H × List MemPlace} (h : DataW.trod enc Tryd.prog w base spare held fuel 25 [.slice a len cap] = some y) :
    ∃ (K A X Y : Nat → Int), RowAct w a len K A X Y ∧ ∀ j, j < len → (Lit.int .i64 (A j)).wf = true := by
  rcases open_slice Tryd.underlying25 h with ⟨hcs, _⟩ | ⟨x, l, c, m, n, D, Pl, hcs, hb, hl, hm, hmm, _, hx⟩
  · simp at hcs
    obtain ⟨rfl, rfl, rfl⟩ := hcs
    exact ⟨fun _ => 0, fun _ => 0, fun _ => 0, fun _ => 0, ⟨Nat.zero_le _, fun h => absurd h (by omega)⟩, fun _ h => absurd h (by omega)⟩
  · simp at hcs
    obtain ⟨rfl, rfl, rfl⟩ := hcs
    have cO : Tryd.prog.cellsOf 37 = 4 := by kernel_rfl
    rw [cO] at hx
    have hlm : len ≤ m := by rw [hmm]; split <;> omega
    obtain ⟨q, hq⟩ := choose_lt (α := Int × Int × Int × Int) (n := len) (p := fun i q => w.cell? (x.add (i * 4)) = some (.int .i64 q.1) ∧ w.cell? ((x.add (i * 4)).add 1) = some (.int .i64 q.2.1) ∧ w.cell? ((x.add (i * 4)).add 2) = some (.int .i64 q.2.2.1) ∧ w.cell? ((x.add (i * 4)).add 3) = some (.int .i64 q.2.2.2) ∧ (Lit.int .i64 q.2.1).wf = true) (fun i hi => by
      obtain ⟨cs', h1, h2⟩ := hx i (by omega)
      obtain ⟨_, hlen, hcell⟩ := World.cells?_some h1
      obtain ⟨k, a, b, c, rfl, hwf⟩ := elem_ac h2 hlen
      have e0 := hcell 0 (by omega)
      have e1 := hcell 1 (by omega)
      have e2 := hcell 2 (by omega)
      have e3 := hcell 3 (by omega)
      refine ⟨(k, a, b, c), ?_, e1, e2, e3, hwf⟩
      have : (x.add (i * 4)).add 0 = x.add (i * 4) := by unfold Addr.add; split <;> simp_all
      rw [this] at e0
      exact e0)
    refine ⟨fun j => (q j).1, fun j => (q j).2.1, fun j => (q j).2.2.1, fun j => (q j).2.2.2, ⟨by omega, fun h0 => ?_⟩, fun j hj => (hq j hj).2.2.2.2⟩
    obtain ⟨b, off, spot⟩ := x
    have hspot : spot = none := by simpa [Addr.add] using World.cell?_spot (hq 0 h0).1
    subst hspot
    have key : ∀ j, j < len → _ := fun j hj => (fun h => (⟨h.1, h.2.1, h.2.2.1, h.2.2.2.1⟩ : _ ∧ _ ∧ _ ∧ _)) (hq j hj)
    simp only [Addr.add_lit] at key
    exact ⟨b, off, rfl, World.block_lt_of_cell? w ⟨b, off + 0 * 4, none⟩ (key 0 h0).1, key⟩
end

end Go.Proofs.YtchkgmknhndccaaDoor
