/-
  From the listed variables (math/bits' table, package heart's two fields) to what the walks ask of them; and the start that the program's own text leaves.
-/
import Derived.Test.YtkogeeaoppkhkaaDoorRows
import Derived.Test.YtkogeeaoppkhkaaDoorHeart1
import Derived.ProofKit
import Derived.LaidMore
import Derived.OpenShut
import Derived.Stop.Joined
import Derived.Lib.LaidTab
namespace Go.Proofs.YtkogeeaoppkhkaaDoor
open Go.ChangeShapes Go.WideShapes Go.ChangeAt Go.RowKit

namespace LH
theorem own : ownKnob Tryd.prog.godebug = none := by kernel_rfl
theorem laidOut : laidOutB Tryd.prog = true := by kernel_rfl
/-- The listed variables' names, as the rows have them. -/
def nAt (j : Nat) : String := ((Rows.heartRunsRow.laid.map (·.1))[j]?).getD default
abbrev doorSteps : Nat := 40
def laidF : List (String × DataW Unit) := [(nAt 0, Rows.laid_math_bits_deBruijn64tab), (nAt 1, Rows.laid_chandlery_heart_kindField), (nAt 2, Rows.laid_chandlery_heart_numberField)]
theorem g0 : Tryd.prog.globalNamed (nAt 0) = some 2 := by kernel_rfl
theorem g1 : Tryd.prog.globalNamed (nAt 1) = some 0 := by kernel_rfl
theorem g2 : Tryd.prog.globalNamed (nAt 2) = some 1 := by kernel_rfl
theorem t0 : (Tryd.prog.globals[2]?).map (·.type) = some 150 := by kernel_rfl
theorem t1 : (Tryd.prog.globals[0]?).map (·.type) = some 131 := by kernel_rfl
theorem t2 : (Tryd.prog.globals[1]?).map (·.type) = some 131 := by kernel_rfl
theorem cI : Tryd.prog.cellsOf 3 = 1 := by kernel_rfl
theorem cF : Tryd.prog.cellsOf 131 = 2 := by kernel_rfl

theorem doorF_met (os : Os) (args : Array Value) : laidMetH Tryd.prog laidF ((World.doorLaid Tryd.prog doorSteps os).forCall (fun _ _ => 0) ⟨#[], args, []⟩).memory :=
  laidMetH_of_parts3 (fuel := 8) (laidMet_of_run' 8 (by kernel_rfl) (by kernel_rfl)) (by kernel_rfl) (by kernel_rfl)

theorem cast_getD (l : List Nat) (j : Nat) : (l.map fun (z : Nat) => (z : Int)).getD j 0 = ((l.getD j 0 : Nat) : Int) := by
  simp only [List.getD_eq_getElem?_getD, List.getElem?_map]
  cases l[j]? <;> rfl
/-- Two ints of a row that reads as a field's two numbers. -/
theorem two_of_trod {H : Type} {enc : TypeId × Value → H} {w : World} {base : Nat} {sp : Nat → Bool} {held : Bool} {fuel : Nat} {c0 c1 : Value} {u v : Int} {p : List MemPlace}
    (h : DataW.trod enc Tryd.prog w base sp held fuel 131 [c0, c1] = some (.agg [.lit (.int .i64 u), .lit (.int .i64 v)], p)) : c0 = .int .i64 u ∧ c1 = .int .i64 v := by
  obtain ⟨y0, y1, m, hx, _, h0, h1⟩ := trod_struct2 Tryd.underlying131 h
  have h0' : DataW.trod enc Tryd.prog w base sp held m 3 (([c0, c1].drop 0).take (Tryd.prog.cellsOf 3)) = some y0 := h0
  have h1' : DataW.trod enc Tryd.prog w base sp held m 3 (([c0, c1].drop 1).take (Tryd.prog.cellsOf 3)) = some y1 := h1
  rw [cI] at h0' h1'
  obtain ⟨z0, k0, rfl, _⟩ := DataW.trod_int Tryd.underlying3 h0'
  obtain ⟨z1, k1, rfl, _⟩ := DataW.trod_int Tryd.underlying3 h1'
  simp only [Prod.mk.injEq, DataW.agg.injEq, List.cons.injEq, DataW.lit.injEq, Lit.int.injEq, true_and, and_true] at hx
  simp at k0 k1
  rw [k0, k1, ← hx.1.1, ← hx.1.2]
  exact ⟨rfl, rfl⟩
theorem field_of {W : World} {name : String} {g : Nat} {cs : Array Value} {fuel : Nat} {p : List MemPlace} {u v : Int} (hg : Tryd.prog.globalNamed name = some g) (hvar : W.var? Tryd.prog name = some cs)
    (hd : DataW.trod (fun _ => ()) Tryd.prog W 0 (fun _ => true) false fuel 131 cs.toList = some (.agg [.lit (.int .i64 u), .lit (.int .i64 v)], p)) (hs : cs.size = 2) : W.cell? ⟨g, 0, none⟩ = some (.int .i64 u) ∧ W.cell? ⟨g, 1, none⟩ = some (.int .i64 v) := by
  have v0 := World.var?_cell hg hvar 0
  have v1 := World.var?_cell hg hvar 1
  obtain ⟨l⟩ := cs
  match l, hs with
  | [c0, c1], _ =>
    obtain ⟨rfl, rfl⟩ := two_of_trod hd
    exact ⟨v0, v1⟩
/-- What the condition gives the walks. -/
theorem fld_of_laid {W : World} (h : laidMetH Tryd.prog laidF W) : FldAt W := by
  rw [MakeChecks.laidMetH_plain _ _ _ (by kernel_rfl)] at h
  have ht := Lib.tabIs_of_head (P := Tryd.prog) (W := W) (name := nAt 0) (k := .u8) (zs := Go.Lib.deBruijn64tab.map fun (z : Nat) => (z : Int)) (rest := [(nAt 1, Rows.laid_chandlery_heart_kindField), (nAt 2, Rows.laid_chandlery_heart_numberField)]) g0 t0 Tryd.underlying150 Tryd.underlying5 (by kernel_rfl) (by kernel_rfl) h
  obtain ⟨ps, ⟨_, _, _, _, _, _, _, _, _, _, ⟨ga, ta, ca, fa, pa, qa, ha1, ha2, ha3, ha4, ⟨gb, tb, cb, fb, pb, qb, hb1, hb2, hb3, hb4, _, _⟩, _⟩, _⟩, _⟩ := h
  obtain rfl := Option.some.inj (g1.symm.trans ha1)
  obtain rfl := Option.some.inj (t1.symm.trans ha2)
  obtain rfl := Option.some.inj (g2.symm.trans hb1)
  obtain rfl := Option.some.inj (t2.symm.trans hb2)
  have sa : ca.size = 2 := by
    obtain ⟨xs, n, _, _, hl, _, _⟩ := DataW.trod_struct Tryd.underlying131 ha4
    rw [cF] at hl
    simpa using hl
  have sb : cb.size = 2 := by
    obtain ⟨xs, n, _, _, hl, _, _⟩ := DataW.trod_struct Tryd.underlying131 hb4
    rw [cF] at hl
    simpa using hl
  obtain ⟨k0, k1⟩ := field_of (u := 0) (v := 8) g1 ha3 ha4 sa
  obtain ⟨n0, n1⟩ := field_of (u := 8) (v := 32) g2 hb3 hb4 sb
  refine ⟨k0, k1, n0, n1, ?_⟩
  intro j hj
  rw [ht.cell g0 j (by rw [List.length_map]; exact hj), cast_getD]
end LH
end Go.Proofs.YtkogeeaoppkhkaaDoor
