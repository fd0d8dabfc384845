/-
  The arguments of SlotCopies (two bytes) and SlotBack (a struct with two bytes, two lists of words and a bool), opened.
-/
import Derived.Test.YtlpaijobcopbnaaRow64
import Derived.OpenShut
import Derived.Lib.SmallJoins
namespace Go.Proofs.Ytlpaijobcopbnaa
open Go.Joins Go.ChangeShapes Go.WideShapes Go.RowKit Go.Deep

section
variable {H : Type} {enc : TypeId × Value → H} {w : World} {base : Nat} {spare : Nat → Bool} {held : Bool}
theorem open_duo2 {fuel : Nat} {c0 c1 : Value} {x : DataW H × List MemPlace} (hf : DataW.trod enc Try.prog w base spare held fuel 32 [c0, c1] = some x) :
    ∃ a b : Nat, c0 = .int .u8 a ∧ c1 = .int .u8 b ∧ a < 256 ∧ b < 256 := by
  obtain ⟨ys, m, _, _, _, hl, hg⟩ := DataW.trod_array Try.underlying32 hf
  have cI : Try.prog.cellsOf 5 = 1 := by kernel_rfl
  have h0 := hg 0 (by omega)
  have h1 := hg 1 (by omega)
  match ys, hl with
  | [y0, y1], _ =>
    simp [cI] at h0 h1
    obtain ⟨a, e0, _, w0⟩ := DataW.trod_int Try.underlying5 h0
    obtain ⟨b, e1, _, w1⟩ := DataW.trod_int Try.underlying5 h1
    simp at e0 e1
    subst e0 e1
    have b0 := bounds_u8 w0
    have b1 := bounds_u8 w1
    obtain ⟨a, rfl⟩ := Int.eq_ofNat_of_zero_le b0.1
    obtain ⟨b, rfl⟩ := Int.eq_ofNat_of_zero_le b1.1
    exact ⟨a, b, rfl, rfl, by omega, by omega⟩
theorem open_duo {r : Reach} {b0 : Nat} {v : Value} {d : DataW H} {p : List MemPlace} (hv : Value.okWide Try.prog w r b0 32 v) (h : DataW.Trod enc Try.prog w base spare held 32 v d p) :
    ∃ a b : Nat, v = .agg #[.int .u8 a, .int .u8 b] ∧ a < 256 ∧ b < 256 := by
  simp only [Value.okWide, Try.underlying32] at hv
  obtain ⟨cs, rfl, hsz, _⟩ := hv
  obtain ⟨l⟩ := cs
  match l, hsz.trans (show Try.prog.cellsOf 32 = 2 by kernel_rfl) with
  | [c0, c1], _ =>
    obtain ⟨fuel, hf⟩ := h
    simp [Value.cells] at hf
    obtain ⟨a, b, rfl, rfl, h1, h2⟩ := open_duo2 hf
    exact ⟨a, b, rfl, h1, h2⟩
theorem row_w64 {fuel : Nat} {c : Value} {y : DataW H × List MemPlace} (h : DataW.trod enc Try.prog w base (fun _ => true) true fuel 31 [c] = some y) : ∃ a len cap zs, c = .slice a len cap ∧ IsRow .u64 w a len cap zs := by
  rcases open_ints Try.underlying31 Try.underlying35 (by kernel_rfl) h with ⟨hcs, _⟩ | ⟨x, l, c', zs, hcs, _, hl, hm, hz, _, hcell, hwz⟩
  · simp at hcs
    subst hcs
    exact ⟨none, 0, 0, [], rfl, .inl ⟨rfl, rfl, rfl, rfl⟩⟩
  · simp at hcs
    subst hcs
    exact ⟨_, _, _, zs, rfl, .inr ⟨_, rfl, hl, hm, by simpa using hz, hcell, hwz⟩⟩
theorem open_two {r : Reach} {b0 : Nat} {v : Value} {d : DataW H} {p : List MemPlace} (hv : Value.okWide Try.prog w r b0 46 v) (h : DataW.Trod enc Try.prog w base (fun _ => true) true 46 v d p) :
    ∃ (f0 f1 : Nat) (a : Option Addr) (len cap : Nat) (zs : List Int) (a2 : Option Addr) (len2 cap2 : Nat) (zs2 : List Int) (first : Bool), v = .agg #[.int .u8 f0, .int .u8 f1, .slice a len cap, .slice a2 len2 cap2, .bool first] ∧ f0 < 256 ∧ f1 < 256 ∧ IsRow .u64 w a len cap zs ∧ IsRow .u64 w a2 len2 cap2 zs2 := by
  obtain ⟨cs, rfl, hsz⟩ := okWide_struct Try.underlying46 hv
  obtain ⟨l⟩ := cs
  match l, hsz.trans (show Try.prog.cellsOf 46 = 5 by kernel_rfl) with
  | [c0, c1, c2, c3, c4], _ =>
    obtain ⟨fuel, hf⟩ := h
    obtain ⟨y0, y1, y2, y3, n, _, _, q0, q1, q2, q3⟩ := trod_struct4 Try.underlying46 hf
    have c82 : Try.prog.cellsOf 32 = 2 := by kernel_rfl
    have cS : Try.prog.cellsOf 31 = 1 := by kernel_rfl
    have cB : Try.prog.cellsOf 4 = 1 := by kernel_rfl
    simp [Value.cells, c82, cS, cB] at q0 q1 q2 q3
    obtain ⟨f0, f1, rfl, rfl, h0, h1⟩ := open_duo2 q0
    obtain ⟨a, len, cap, zs, rfl, hr⟩ := row_w64 q1
    obtain ⟨a2, len2, cap2, zs2, rfl, hr2⟩ := row_w64 q2
    obtain ⟨b, e3, _⟩ := DataW.trod_bool Try.underlying4 q3
    simp at e3
    subst e3
    exact ⟨f0, f1, a, len, cap, zs, a2, len2, cap2, zs2, b, rfl, h0, h1, hr, hr2⟩
end

end Go.Proofs.Ytlpaijobcopbnaa
