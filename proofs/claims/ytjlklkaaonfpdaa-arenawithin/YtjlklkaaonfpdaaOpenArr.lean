/-
  The arguments of ArenaBlocks (an array of three numbers) and ArenaWithin (a struct with a system, a byte, two bytes and a short number in it), opened.
-/
import Derived.Test.YtjlklkaaonfpdaaRowCfg
import Derived.OpenShut
namespace Go.Proofs.Ytjlklkaaonfpdaa
open Go.Joins Go.ChangeShapes Go.WideShapes Go.RowKit Go.Deep

section
variable {H : Type} {enc : TypeId × Value → H} {w : World} {base : Nat} {spare : Nat → Bool} {held : Bool}
theorem open_tri {r : Reach} {b0 : Nat} {v : Value} {d : DataW H} {p : List MemPlace} (hv : Value.okWide Try.prog w r b0 32 v) (h : DataW.Trod enc Try.prog w base spare held 32 v d p) :
    ∃ a b c : Int, v = .agg #[.int .i64 a, .int .i64 b, .int .i64 c] := by
  simp only [Value.okWide, Try.underlying32] at hv
  obtain ⟨cs, rfl, hsz, _⟩ := hv
  obtain ⟨l⟩ := cs
  match l, hsz.trans (show Try.prog.cellsOf 32 = 3 by kernel_rfl) with
  | [c0, c1, c2], _ =>
    obtain ⟨fuel, hf⟩ := h
    obtain ⟨ys, m, _, _, _, hl, hg⟩ := DataW.trod_array Try.underlying32 hf
    have cI : Try.prog.cellsOf 3 = 1 := by kernel_rfl
    have h0 := hg 0 (by omega)
    have h1 := hg 1 (by omega)
    have h2 := hg 2 (by omega)
    match ys, hl with
    | [y0, y1, y2], _ =>
      simp [Value.cells, cI] at h0 h1 h2
      obtain ⟨a, e0, _, _⟩ := DataW.trod_int Try.underlying3 h0
      obtain ⟨b, e1, _, _⟩ := DataW.trod_int Try.underlying3 h1
      obtain ⟨c, e2, _, _⟩ := DataW.trod_int Try.underlying3 h2
      simp at e0 e1 e2
      subst e0 e1 e2
      exact ⟨a, b, c, rfl⟩
theorem open_cfg5 {fuel : Nat} {c0 c1 c2 c3 c4 : Value} {x : DataW H × List MemPlace} (hf : DataW.trod enc Try.prog w base spare held fuel 24 [c0, c1, c2, c3, c4] = some x) :
    ∃ (W S B T : Int) (ad : Option Addr) (len cap : Nat) (f : Nat → Int), c0 = .int .i64 W ∧ c1 = .int .i64 S ∧ c2 = .int .i64 B ∧ c3 = .int .i64 T ∧ c4 = .slice ad len cap ∧ RowI w ad len f ∧ len ≤ maxLen := by
  obtain ⟨y0, y1, y2, y3, y4, n, h0, h1, h2, h3, h4⟩ := trod_struct5 Try.underlying24 hf
  have cI : Try.prog.cellsOf 3 = 1 := by kernel_rfl
  have cS : Try.prog.cellsOf 22 = 1 := by kernel_rfl
  simp only [cI, cS, List.drop_zero, List.drop_succ_cons, List.take_succ_cons, List.take_zero] at h0 h1 h2 h3 h4
  obtain ⟨W, e0, _, _⟩ := DataW.trod_int Try.underlying3 h0
  obtain ⟨S, e1, _, _⟩ := DataW.trod_int Try.underlying3 h1
  obtain ⟨B, e2, _, _⟩ := DataW.trod_int Try.underlying3 h2
  obtain ⟨T, e3, _, _⟩ := DataW.trod_int Try.underlying3 h3
  obtain ⟨ad, len, cap, f, e4, hr, hl, hn, hlc, hcm⟩ := row_ints h4
  simp at e0 e1 e2 e3
  exact ⟨W, S, B, T, ad, len, cap, f, e0, e1, e2, e3, e4, hr, hl⟩
theorem open_inside {r : Reach} {b0 : Nat} {v : Value} {d : DataW H} {p : List MemPlace} (hv : Value.okWide Try.prog w r b0 48 v) (h : DataW.Trod enc Try.prog w base spare held 48 v d p) :
    ∃ (W S B T : Int) (ad : Option Addr) (len cap : Nat) (f : Nat → Int) (k0 o0 o1 b : Nat), v = .agg #[.int .i64 W, .int .i64 S, .int .i64 B, .int .i64 T, .slice ad len cap, .int .u8 k0, .int .u8 o0, .int .u8 o1, .int .u16 b] ∧ RowI w ad len f ∧ len ≤ maxLen ∧ k0 < 256 ∧ o0 < 256 ∧ o1 < 256 ∧ b < 65536 := by
  obtain ⟨cs, rfl, hsz⟩ := okWide_struct Try.underlying48 hv
  obtain ⟨l⟩ := cs
  match l, hsz.trans (show Try.prog.cellsOf 48 = 9 by kernel_rfl) with
  | [c0, c1, c2, c3, c4, c5, c6, c7, c8], _ =>
    obtain ⟨fuel, hf⟩ := h
    obtain ⟨y0, y1, y2, y3, n, _, _, q0, q1, q2, q3⟩ := trod_struct4 Try.underlying48 hf
    have cC : Try.prog.cellsOf 24 = 5 := by kernel_rfl
    have c8' : Try.prog.cellsOf 5 = 1 := by kernel_rfl
    have c82 : Try.prog.cellsOf 45 = 2 := by kernel_rfl
    have c16 : Try.prog.cellsOf 46 = 1 := by kernel_rfl
    simp [Value.cells, cC, c8', c82, c16] at q0 q1 q2 q3
    obtain ⟨W, S, B, T, ad, len, cap, f, rfl, rfl, rfl, rfl, rfl, hr, hl⟩ := open_cfg5 q0
    obtain ⟨a, e1, _, w1⟩ := DataW.trod_int Try.underlying5 q1
    obtain ⟨e, e3, _, w3⟩ := DataW.trod_int Try.underlying46 q3
    obtain ⟨ys, m, _, _, _, hl2, hg⟩ := DataW.trod_array Try.underlying45 q2
    have h0 := hg 0 (by omega)
    have h1 := hg 1 (by omega)
    match ys, hl2 with
    | [y4, y5], _ =>
      simp [c8'] at h0 h1
      obtain ⟨b, e4, _, w4⟩ := DataW.trod_int Try.underlying5 h0
      obtain ⟨c, e5, _, w5⟩ := DataW.trod_int Try.underlying5 h1
      simp at e1 e3 e4 e5
      subst e1 e3 e4 e5
      have b1 := bounds_u8 w1
      have b3 := bounds_u16 w3
      have b4 := bounds_u8 w4
      have b5 := bounds_u8 w5
      obtain ⟨a, rfl⟩ := Int.eq_ofNat_of_zero_le b1.1
      obtain ⟨e, rfl⟩ := Int.eq_ofNat_of_zero_le b3.1
      obtain ⟨b, rfl⟩ := Int.eq_ofNat_of_zero_le b4.1
      obtain ⟨c, rfl⟩ := Int.eq_ofNat_of_zero_le b5.1
      exact ⟨W, S, B, T, ad, len, cap, f, a, b, c, e, rfl, hr, hl, by omega, by omega, by omega, by omega⟩
end

end Go.Proofs.Ytjlklkaaonfpdaa
