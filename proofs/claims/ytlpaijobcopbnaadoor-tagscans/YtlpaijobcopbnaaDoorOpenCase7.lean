/-
  The argument of TagScans (a struct with a list of references, a list of words and four bytes), opened.
-/
import Derived.Test.YtlpaijobcopbnaaDoorRowRef
import Derived.Test.YtlpaijobcopbnaaDoorRow64
namespace Go.Proofs.YtlpaijobcopbnaaDoor
open Go.Joins Go.ChangeShapes Go.WideShapes Go.RowKit Go.Deep

section
variable {H : Type} {enc : TypeId × Value → H} {w : World} {base : Nat}
theorem row_w647 {fuel : Nat} {c : Value} {y : DataW H × List MemPlace} (h : DataW.trod enc Tryd.prog w base (fun _ => true) true fuel 27 [c] = some y) : ∃ a len cap zs, c = .slice a len cap ∧ IsRow .u64 w a len cap zs := by
  rcases open_ints Tryd.underlying27 Tryd.underlying34 (by kernel_rfl) h with ⟨hcs, _⟩ | ⟨x, l, c', zs, hcs, _, hl, hm, hz, _, hcell, hwz⟩
  · simp at hcs
    subst hcs
    exact ⟨none, 0, 0, [], rfl, .inl ⟨rfl, rfl, rfl, rfl⟩⟩
  · simp at hcs
    subst hcs
    exact ⟨_, _, _, zs, rfl, .inr ⟨_, rfl, hl, hm, by simpa using hz, hcell, hwz⟩⟩
theorem byte7 {fuel : Nat} {c : Value} {y : DataW H × List MemPlace} (h : DataW.trod enc Tryd.prog w base (fun _ => true) true fuel 5 [c] = some y) : ∃ m : Nat, c = .int .u8 m ∧ m < 256 := by
  obtain ⟨a, e1, _, w1⟩ := DataW.trod_int Tryd.underlying5 h
  simp at e1
  subst e1
  have b1 := bounds_u8 w1
  obtain ⟨a, rfl⟩ := Int.eq_ofNat_of_zero_le b1.1
  exact ⟨a, rfl, by omega⟩
theorem open_case7 {r : Reach} {b0 : Nat} {v : Value} {d : DataW H} {p : List MemPlace} (hv : Value.okWide Tryd.prog w r b0 29 v) (h : DataW.Trod enc Tryd.prog w base (fun _ => true) true 29 v d p) :
    ∃ (a : Option Addr) (len cap : Nat) (X Y Z : Nat → Int) (a2 : Option Addr) (len2 cap2 : Nat) (zs : List Int) (cw ck ca cn : Nat), v = .agg #[.slice a len cap, .slice a2 len2 cap2, .int .u8 cw, .int .u8 ck, .int .u8 ca, .int .u8 cn] ∧ RowR w a len X Y Z ∧ IsRow .u64 w a2 len2 cap2 zs ∧ cw < 256 ∧ ck < 256 ∧ ca < 256 ∧ cn < 256 := by
  obtain ⟨cs, rfl, hsz⟩ := okWide_struct Tryd.underlying29 hv
  obtain ⟨l⟩ := cs
  match l, hsz.trans (show Tryd.prog.cellsOf 29 = 6 by kernel_rfl) with
  | [c0, c1, c2, c3, c4, c5], _ =>
    obtain ⟨fuel, hf⟩ := h
    obtain ⟨xs, n, _, _, hl, hlen, hg⟩ := DataW.trod_struct Tryd.underlying29 hf
    have cR : Tryd.prog.cellsOf 26 = 1 := by kernel_rfl
    have cS : Tryd.prog.cellsOf 27 = 1 := by kernel_rfl
    have cB : Tryd.prog.cellsOf 5 = 1 := by kernel_rfl
    match xs, hlen with
    | [y0, y1, y2, y3, y4, y5], _ =>
      have q0 := hg 0 _ rfl
      have q1 := hg 1 _ rfl
      have q2 := hg 2 _ rfl
      have q3 := hg 3 _ rfl
      have q4 := hg 4 _ rfl
      have q5 := hg 5 _ rfl
      simp [Value.cells, cR, cS, cB] at q0 q1 q2 q3 q4 q5
      obtain ⟨a, len, cap, X, Y, Z, rfl, hr⟩ := row_ref q0
      obtain ⟨a2, len2, cap2, zs, rfl, hr2⟩ := row_w647 q1
      obtain ⟨m2, rfl, b2⟩ := byte7 q2
      obtain ⟨m3, rfl, b3⟩ := byte7 q3
      obtain ⟨m4, rfl, b4⟩ := byte7 q4
      obtain ⟨m5, rfl, b5⟩ := byte7 q5
      exact ⟨a, len, cap, X, Y, Z, a2, len2, cap2, zs, m2, m3, m4, m5, rfl, hr, hr2, b2, b3, b4, b5⟩
end

end Go.Proofs.YtlpaijobcopbnaaDoor
