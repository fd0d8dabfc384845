/-
  The argument of WordApart, a struct of two words and two fields, opened to its six cells.
-/
import Derived.Lib.SmallJoins
namespace Go.Proofs.YtjddbbkmaifcpaaDoor
open Go.Joins Go.ChangeShapes Go.WideShapes Go.RowKit Go.Deep

section
variable {H : Type} {enc : TypeId × Value → H} {P : Program} {w : World} {base : Nat} {spare : Nat → Bool} {held : Bool}
theorem open_pair {t : TypeId} {f0 f1 : Field} {fuel : Nat} {c0 c1 : Value} {x : DataW H × List MemPlace} (hs : P.underlying t = some (.struct #[f0, f1])) (hone : oneCellFields P #[f0, f1] = true)
    (h : DataW.trod enc P w base spare held fuel t [c0, c1] = some x) :
    ∃ (y0 y1 : DataW H × List MemPlace) (n : Nat), DataW.trod enc P w base spare held n f0.type [c0] = some y0 ∧ DataW.trod enc P w base spare held n f1.type [c1] = some y1 := by
  obtain ⟨y0, y1, n, _, _, h0, h1⟩ := trod_struct2 hs h
  obtain ⟨o0, k0⟩ := hone_of hone 0 f0 rfl
  obtain ⟨o1, k1⟩ := hone_of hone 1 f1 rfl
  exact ⟨y0, y1, n, by simpa [o0, k0] using h0, by simpa [o1, k1] using h1⟩

theorem open_case {r : Reach} {b0 : Nat} {t : TypeId} {f0 f1 f2 f3 g0 g1 e0 e1 : Field} {v : Value} {d : DataW H} {p : List MemPlace} (hs : P.underlying t = some (.struct #[f0, f1, f2, f3])) (hC : P.cellsOf t = 6)
    (o0 : f0.offset = 0) (o1 : f1.offset = 1) (o2 : f2.offset = 2) (o3 : f3.offset = 4) (k0 : P.cellsOf f0.type = 1) (k1 : P.cellsOf f1.type = 1) (k2 : P.cellsOf f2.type = 2) (k3 : P.cellsOf f3.type = 2)
    (hs2 : P.underlying f2.type = some (.struct #[g0, g1])) (hone2 : oneCellFields P #[g0, g1] = true) (hs3 : P.underlying f3.type = some (.struct #[e0, e1])) (hone3 : oneCellFields P #[e0, e1] = true)
    (hv : Value.okWide P w r b0 t v) (h : DataW.Trod enc P w base spare held t v d p) :
    ∃ (v0 v1 v2 v3 v4 v5 : Value) (y0 y1 y2 y3 y4 y5 : DataW H × List MemPlace) (n n2 n3 : Nat), v = .agg #[v0, v1, v2, v3, v4, v5] ∧
      DataW.trod enc P w base spare held n f0.type [v0] = some y0 ∧ DataW.trod enc P w base spare held n f1.type [v1] = some y1 ∧
      DataW.trod enc P w base spare held n2 g0.type [v2] = some y2 ∧ DataW.trod enc P w base spare held n2 g1.type [v3] = some y3 ∧
      DataW.trod enc P w base spare held n3 e0.type [v4] = some y4 ∧ DataW.trod enc P w base spare held n3 e1.type [v5] = some y5 := by
  obtain ⟨cs, rfl, hsz⟩ := okWide_struct hs hv
  obtain ⟨l⟩ := cs
  match l, hsz.trans hC with
  | [c0, c1, c2, c3, c4, c5], _ =>
    obtain ⟨fuel, hf⟩ := h
    obtain ⟨y0, y1, y2, y3, n, _, _, q0, q1, q2, q3⟩ := trod_struct4 hs hf
    have r2 : DataW.trod enc P w base spare held n f2.type [c2, c3] = some y2 := by simpa [Value.cells, o2, k2] using q2
    have r3 : DataW.trod enc P w base spare held n f3.type [c4, c5] = some y3 := by simpa [Value.cells, o3, k3] using q3
    obtain ⟨z0, z1, n2, s0, s1⟩ := open_pair hs2 hone2 r2
    obtain ⟨z2, z3, n3, s2, s3⟩ := open_pair hs3 hone3 r3
    exact ⟨c0, c1, c2, c3, c4, c5, y0, y1, z0, z1, z2, z3, n, n2, n3, rfl, by simpa [Value.cells, o0, k0] using q0, by simpa [Value.cells, o1, k1] using q1, s0, s1, s2, s3⟩
end

end Go.Proofs.YtjddbbkmaifcpaaDoor
