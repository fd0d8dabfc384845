/-
  From the listed variable (package word's table of three fields) to what the walks ask of it; and the start that the program's own text leaves.
-/
import Derived.Test.YtlpaijobcopbnaaDoorRows
import Derived.Test.YtlpaijobcopbnaaDoorWord2
import Derived.ProofKit
import Derived.LaidMore
import Derived.OpenShut
import Derived.Stop.Joined
import Derived.Lib.LaidTab
namespace Go.Proofs.YtlpaijobcopbnaaDoor
open Go.ChangeShapes Go.WideShapes Go.ChangeAt Go.RowKit

namespace LW
theorem own : ownKnob Tryd.prog.godebug = none := by kernel_rfl
theorem laidOut : laidOutB Tryd.prog = true := by kernel_rfl
/-- The listed variable's name, as the rows have it. -/
def nRef : String := (Rows.tagLeastRow.named.head?).getD default
abbrev doorSteps : Nat := 22
def laidR : List (String × DataW Unit) := [(nRef, Rows.laid_chandlery_word_refFields)]
theorem gRef : Tryd.prog.globalNamed nRef = some 0 := by kernel_rfl
theorem tRef : (Tryd.prog.globals[0]?).map (·.type) = some 64 := by kernel_rfl
theorem cF : Tryd.prog.cellsOf 63 = 2 := by kernel_rfl
theorem cI : Tryd.prog.cellsOf 3 = 1 := by kernel_rfl
theorem cA : Tryd.prog.cellsOf 64 = 6 := by kernel_rfl

theorem doorR_met (os : Os) (args : Array Value) : laidMetH Tryd.prog laidR ((World.doorLaid Tryd.prog doorSteps os).forCall (fun _ _ => 0) ⟨#[], args, []⟩).memory :=
  laidMetH_of_parts3 (fuel := 8) (laidMet_of_run' 8 (by kernel_rfl) (by kernel_rfl)) (by kernel_rfl) (by kernel_rfl)

/-- Two ints of a row that reads as a field's two numbers. -/
theorem two_of_trod {H : Type} {enc : TypeId × Value → H} {w : World} {base : Nat} {sp : Nat → Bool} {held : Bool} {fuel : Nat} {c0 c1 : Value} {u v : Int} {p : List MemPlace}
    (h : DataW.trod enc Tryd.prog w base sp held fuel 63 [c0, c1] = some (.agg [.lit (.int .i64 u), .lit (.int .i64 v)], p)) : c0 = .int .i64 u ∧ c1 = .int .i64 v := by
  obtain ⟨y0, y1, m, hx, _, h0, h1⟩ := trod_struct2 Tryd.underlying63 h
  have h0' : DataW.trod enc Tryd.prog w base sp held m 3 (([c0, c1].drop 0).take (Tryd.prog.cellsOf 3)) = some y0 := h0
  have h1' : DataW.trod enc Tryd.prog w base sp held m 3 (([c0, c1].drop 1).take (Tryd.prog.cellsOf 3)) = some y1 := h1
  rw [cI] at h0' h1'
  obtain ⟨z0, k0, rfl, _⟩ := DataW.trod_int Tryd.underlying3 h0'
  obtain ⟨z1, k1, rfl, _⟩ := DataW.trod_int Tryd.underlying3 h1'
  simp only [Prod.mk.injEq, DataW.agg.injEq, List.cons.injEq, DataW.lit.injEq, Lit.int.injEq, true_and, and_true] at hx
  simp at k0 k1
  rw [k0, k1, ← hx.1.1, ← hx.1.2]
  exact ⟨rfl, rfl⟩

/-- What the condition gives the walks: the table's cells. -/
theorem ref_of_laid {W : World} (h : laidMetH Tryd.prog laidR W) : RefAt W := by
  rw [MakeChecks.laidMetH_plain _ _ _ (by kernel_rfl)] at h
  obtain ⟨ps, ⟨g, t, cs, fuel, p, q, hg, ht, hvar, hd, _, _⟩, _⟩ := h
  obtain rfl := Option.some.inj (gRef.symm.trans hg)
  obtain rfl := Option.some.inj (tRef.symm.trans ht)
  obtain ⟨xs, m, rfl, hx, hlen, hn, hel⟩ := DataW.trod_array Tryd.underlying64 hd
  have e0 := hel 0 (by decide)
  have e1 := hel 1 (by decide)
  have e2 := hel 2 (by decide)
  rw [cF] at e0 e1 e2
  rw [cA] at hlen
  obtain ⟨l⟩ := cs
  have v0 := World.var?_cell hg hvar 0
  have v1 := World.var?_cell hg hvar 1
  have v2 := World.var?_cell hg hvar 2
  have v3 := World.var?_cell hg hvar 3
  have v4 := World.var?_cell hg hvar 4
  have v5 := World.var?_cell hg hvar 5
  match l, hlen, xs, hn with
  | [c0, c1, c2, c3, c4, c5], _, [x0, x1, x2], _ =>
    obtain ⟨d0, p0⟩ := x0
    obtain ⟨d1, p1⟩ := x1
    obtain ⟨d2, p2⟩ := x2
    simp only [Rows.laid_chandlery_word_refFields, Prod.mk.injEq, DataW.agg.injEq, List.map_cons, List.map_nil, List.cons.injEq, and_true] at hx
    obtain ⟨⟨rfl, rfl, rfl⟩, _⟩ := hx
    obtain ⟨rfl, rfl⟩ := two_of_trod (c0 := c0) (c1 := c1) e0
    obtain ⟨rfl, rfl⟩ := two_of_trod (c0 := c2) (c1 := c3) e1
    obtain ⟨rfl, rfl⟩ := two_of_trod (c0 := c4) (c1 := c5) e2
    exact ⟨v0, v1, v2, v3, v4, v5⟩
end LW
end Go.Proofs.YtlpaijobcopbnaaDoor
