/-
  The argument of StockFills (a system, two bytes and a word), opened.
-/
import Derived.Test.YtagacljfpakgnaaDoorConfM
import Derived.OpenShut
namespace Go.Proofs.YtagacljfpakgnaaDoor
open Go.Joins Go.ChangeShapes Go.WideShapes Go.RowKit Go.Deep

section
variable {H : Type} {enc : TypeId × Value → H} {w : World} {base : Nat} {spare : Nat → Bool} {held : Bool}
set_option maxRecDepth 20000 in
theorem open_cfg5f {fuel : Nat} {c0 c1 c2 c3 c4 : Value} {x : DataW H × List MemPlace} (hf : DataW.trod enc Tryd.prog w base spare held fuel 24 [c0, c1, c2, c3, c4] = some x) :
    ∃ (W S B T : Int) (ad : Option Addr) (len cap : Nat) (f : Nat → Int), c0 = .int .i64 W ∧ c1 = .int .i64 S ∧ c2 = .int .i64 B ∧ c3 = .int .i64 T ∧ c4 = .slice ad len cap ∧ RowI w ad len f ∧ len ≤ maxLen := by
  obtain ⟨y0, y1, y2, y3, y4, n, h0, h1, h2, h3, h4⟩ := trod_struct5 Tryd.underlying24 hf
  have cI : Tryd.prog.cellsOf 3 = 1 := by kernel_rfl
  have cS : Tryd.prog.cellsOf 22 = 1 := by kernel_rfl
  simp only [cI, cS, List.drop_zero, List.drop_succ_cons, List.take_succ_cons, List.take_zero] at h0 h1 h2 h3 h4
  obtain ⟨W, e0, _, _⟩ := DataW.trod_int Tryd.underlying3 h0
  obtain ⟨S, e1, _, _⟩ := DataW.trod_int Tryd.underlying3 h1
  obtain ⟨B, e2, _, _⟩ := DataW.trod_int Tryd.underlying3 h2
  obtain ⟨T, e3, _, _⟩ := DataW.trod_int Tryd.underlying3 h3
  obtain ⟨ad, len, cap, f, e4, hr, hl, hn, hlc, hcm⟩ := row_ints h4
  simp at e0 e1 e2 e3
  exact ⟨W, S, B, T, ad, len, cap, f, e0, e1, e2, e3, e4, hr, hl⟩
set_option maxRecDepth 20000 in
theorem open_fill {r : Reach} {b0 : Nat} {v : Value} {d : DataW H} {p : List MemPlace} (hv : Value.okWide Tryd.prog w r b0 52 v) (h : DataW.Trod enc Tryd.prog w base spare held 52 v d p) :
    ∃ (W S B T : Int) (ad : Option Addr) (len cap : Nat) (f : Nat → Int) (g k m : Nat), v = .agg #[.int .i64 W, .int .i64 S, .int .i64 B, .int .i64 T, .slice ad len cap, .int .u8 g, .int .u8 k, .int .u64 m] ∧ RowI w ad len f ∧ len ≤ maxLen ∧ g < 256 ∧ k < 256 ∧ m < 18446744073709551616 := by
  obtain ⟨cs, rfl, hsz⟩ := okWide_struct Tryd.underlying52 hv
  obtain ⟨l⟩ := cs
  match l, hsz.trans (show Tryd.prog.cellsOf 52 = 8 by kernel_rfl) with
  | [c0, c1, c2, c3, c4, c5, c6, c7], _ =>
    obtain ⟨fuel, hf⟩ := h
    obtain ⟨y0, y1, y2, y3, n, _, _, q0, q1, q2, q3⟩ := trod_struct4 Tryd.underlying52 hf
    have cC : Tryd.prog.cellsOf 24 = 5 := by kernel_rfl
    have c8' : Tryd.prog.cellsOf 5 = 1 := by kernel_rfl
    have c64 : Tryd.prog.cellsOf 33 = 1 := by kernel_rfl
    simp [Value.cells, cC, c8', c64] at q0 q1 q2 q3
    obtain ⟨W, S, B, T, ad, len, cap, f, rfl, rfl, rfl, rfl, rfl, hr, hl⟩ := open_cfg5f q0
    obtain ⟨a, e1, _, w1⟩ := DataW.trod_int Tryd.underlying5 q1
    obtain ⟨b, e2, _, w2⟩ := DataW.trod_int Tryd.underlying5 q2
    obtain ⟨c, e3, _, w3⟩ := DataW.trod_int Tryd.underlying33 q3
    simp at e1 e2 e3
    subst e1 e2 e3
    have b1 := bounds_u8 w1
    have b2 := bounds_u8 w2
    have b3 := bounds_u64 w3
    obtain ⟨a, rfl⟩ := Int.eq_ofNat_of_zero_le b1.1
    obtain ⟨b, rfl⟩ := Int.eq_ofNat_of_zero_le b2.1
    obtain ⟨c, rfl⟩ := Int.eq_ofNat_of_zero_le b3.1
    exact ⟨W, S, B, T, ad, len, cap, f, a, b, c, rfl, hr, hl, by omega, by omega, by omega⟩
end
end Go.Proofs.YtagacljfpakgnaaDoor
