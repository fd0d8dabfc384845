/-
  Plain arithmetic, of no program: what math/bits.OnesCount64 and TrailingZeros64 reckon, step by step; the members of a set of bits as a list.
-/
import Derived.Test.YtkogeeaoppkhkaaDoorMath1
import Derived.Lib.TrailingZeros
namespace Go.Proofs.YtkogeeaoppkhkaaDoor.Ma
open Go

theorem popF_byte (f x : Nat) : popF (8 + f) x = popF 8 (x % 256) + popF f (x / 256) := by
  rw [show 8 + f = f + 1 + 1 + 1 + 1 + 1 + 1 + 1 + 1 from by omega]
  simp only [popF]
  rw [show x / 2 / 2 / 2 / 2 / 2 / 2 / 2 / 2 = x / 256 from by omega]
  omega

theorem wrap_nat (a : Nat) (h : a < 18446744073709551616) : IntKind.u64.wrap (a : Int) = (a : Int) := by rw [IntKind.wrap_u64]; omega
theorem wrap_add (a b : Nat) (h : a + b < 18446744073709551616) : IntKind.u64.wrap ((a : Int) + (b : Int)) = ((a + b : Nat) : Int) := by rw [IntKind.wrap_u64]; omega
theorem div_cast (a : Nat) (k : Nat) : ((a : Int) / (k : Int)) = ((a / k : Nat) : Int) := by rw [Int.natCast_ediv]

theorem ones_sum (x c d e f : Nat) (hc : c = lane (popF 8) 8 x) (hd : d = c + c / 256) (he : e = d + d / 65536) (hf : f = e + e / 4294967296) :
    c + c / 256 < 18446744073709551616 ∧ d + d / 65536 < 18446744073709551616 ∧ e + e / 4294967296 < 18446744073709551616 ∧ f < 9223372036854775808 ∧ f % 128 = popF 64 x := by
  have b0 := popF_le 8 (x % 256)
  have b1 := popF_le 8 (x / 256 % 256)
  have b2 := popF_le 8 (x / 256 / 256 % 256)
  have b3 := popF_le 8 (x / 256 / 256 / 256 % 256)
  have b4 := popF_le 8 (x / 256 / 256 / 256 / 256 % 256)
  have b5 := popF_le 8 (x / 256 / 256 / 256 / 256 / 256 % 256)
  have b6 := popF_le 8 (x / 256 / 256 / 256 / 256 / 256 / 256 % 256)
  have b7 := popF_le 8 (x / 256 / 256 / 256 / 256 / 256 / 256 / 256 % 256)
  have s : popF 64 x = popF 8 (x % 256) + (popF 8 (x / 256 % 256) + (popF 8 (x / 256 / 256 % 256) + (popF 8 (x / 256 / 256 / 256 % 256) + (popF 8 (x / 256 / 256 / 256 / 256 % 256) + (popF 8 (x / 256 / 256 / 256 / 256 / 256 % 256) + (popF 8 (x / 256 / 256 / 256 / 256 / 256 / 256 % 256) + (popF 8 (x / 256 / 256 / 256 / 256 / 256 / 256 / 256 % 256) + 0))))))) := by
    rw [show (64 : Nat) = 8 + (8 + (8 + (8 + (8 + (8 + (8 + (8 + 0))))))) from rfl, popF_byte, popF_byte, popF_byte, popF_byte, popF_byte, popF_byte, popF_byte, popF_byte]
    rfl
  rw [s]
  have hl : c = popF 8 (x % 256) + 256 * (popF 8 (x / 256 % 256) + 256 * (popF 8 (x / 256 / 256 % 256) + 256 * (popF 8 (x / 256 / 256 / 256 % 256) + 256 * (popF 8 (x / 256 / 256 / 256 / 256 % 256) + 256 * (popF 8 (x / 256 / 256 / 256 / 256 / 256 % 256) + 256 * (popF 8 (x / 256 / 256 / 256 / 256 / 256 / 256 % 256) + 256 * (popF 8 (x / 256 / 256 / 256 / 256 / 256 / 256 / 256 % 256) + 256 * 0))))))) := hc
  clear hc s
  generalize popF 8 (x % 256) = p0 at *
  generalize popF 8 (x / 256 % 256) = p1 at *
  generalize popF 8 (x / 256 / 256 % 256) = p2 at *
  generalize popF 8 (x / 256 / 256 / 256 % 256) = p3 at *
  generalize popF 8 (x / 256 / 256 / 256 / 256 % 256) = p4 at *
  generalize popF 8 (x / 256 / 256 / 256 / 256 / 256 % 256) = p5 at *
  generalize popF 8 (x / 256 / 256 / 256 / 256 / 256 / 256 % 256) = p6 at *
  generalize popF 8 (x / 256 / 256 / 256 / 256 / 256 / 256 / 256 % 256) = p7 at *
  have h1 : c / 256 = p1 + 256 * (p2 + 256 * (p3 + 256 * (p4 + 256 * (p5 + 256 * (p6 + 256 * p7))))) := by omega
  have h2 : d = (p0 + p1) + 256 * ((p1 + p2) + 256 * ((p2 + p3) + 256 * ((p3 + p4) + 256 * ((p4 + p5) + 256 * ((p5 + p6) + 256 * ((p6 + p7) + 256 * p7)))))) := by omega
  have h3 : d / 65536 = (p2 + p3) + 256 * ((p3 + p4) + 256 * ((p4 + p5) + 256 * ((p5 + p6) + 256 * ((p6 + p7) + 256 * p7)))) := by omega
  have h4 : e = (p0 + p1 + p2 + p3) + 256 * ((p1 + p2 + p3 + p4) + 256 * ((p2 + p3 + p4 + p5) + 256 * ((p3 + p4 + p5 + p6) + 256 * ((p4 + p5 + p6 + p7) + 256 * ((p5 + p6 + p7) + 256 * ((p6 + p7) + 256 * p7)))))) := by omega
  have h5 : e / 4294967296 = (p4 + p5 + p6 + p7) + 256 * ((p5 + p6 + p7) + 256 * ((p6 + p7) + 256 * p7)) := by omega
  refine ⟨by omega, by omega, by omega, by omega, ?_⟩
  omega

theorem ones_keys (x : Nat) (hx : x < 18446744073709551616) : ∃ a b c d e f : Nat,
    IntKind.u64.wrap (bits BinOp.and IntKind.u64 ((x : Int) / 2) 6148914691236517205 + bits BinOp.and IntKind.u64 (x : Int) 6148914691236517205) = (a : Int) ∧
    IntKind.u64.wrap (bits BinOp.and IntKind.u64 ((a : Int) / 4) 3689348814741910323 + bits BinOp.and IntKind.u64 (a : Int) 3689348814741910323) = (b : Int) ∧
    bits BinOp.and IntKind.u64 (IntKind.u64.wrap ((b : Int) / 16 + (b : Int))) 1085102592571150095 = (c : Int) ∧
    IntKind.u64.wrap ((c : Int) + (c : Int) / 256) = (d : Int) ∧ IntKind.u64.wrap ((d : Int) + (d : Int) / 65536) = (e : Int) ∧ IntKind.u64.wrap ((e : Int) + (e : Int) / 4294967296) = (f : Int) ∧
    f < 9223372036854775808 ∧ f % 128 = popF 64 x := by
  obtain ⟨a, ha⟩ : ∃ a, a = (x / 2 &&& 6148914691236517205) + (x &&& 6148914691236517205) := ⟨_, rfl⟩
  obtain ⟨b, hb⟩ : ∃ b, b = (a / 4 &&& 3689348814741910323) + (a &&& 3689348814741910323) := ⟨_, rfl⟩
  obtain ⟨la, lb, lw, e3⟩ := swar3 x a b hx ha hb
  obtain ⟨c, hc⟩ : ∃ c, c = lane (popF 8) 8 x := ⟨_, rfl⟩
  obtain ⟨d, hd⟩ : ∃ d, d = c + c / 256 := ⟨_, rfl⟩
  obtain ⟨e, he⟩ : ∃ e, e = d + d / 65536 := ⟨_, rfl⟩
  obtain ⟨f, hf⟩ : ∃ f, f = e + e / 4294967296 := ⟨_, rfl⟩
  obtain ⟨o1, o2, o3, o4, o5⟩ := ones_sum x c d e f hc hd he hf
  refine ⟨a, b, c, d, e, f, ?_, ?_, ?_, ?_, ?_, ?_, o4, o5⟩
  · rw [show ((x : Int) / 2) = ((x / 2 : Nat) : Int) from div_cast x 2]
    rw [show (6148914691236517205 : Int) = ((6148914691236517205 : Nat) : Int) from rfl, u64_and_nat _ _ (by omega) (by decide), u64_and_nat _ _ hx (by decide), wrap_add _ _ (by rw [← ha]; exact la), ← ha]
  · rw [show ((a : Int) / 4) = ((a / 4 : Nat) : Int) from div_cast a 4]
    rw [show (3689348814741910323 : Int) = ((3689348814741910323 : Nat) : Int) from rfl, u64_and_nat _ _ (by omega) (by decide), u64_and_nat _ _ la (by decide), wrap_add _ _ (by rw [← hb]; exact lb), ← hb]
  · rw [show ((b : Int) / 16) = ((b / 16 : Nat) : Int) from div_cast b 16]
    rw [wrap_add _ _ lw, show (1085102592571150095 : Int) = ((1085102592571150095 : Nat) : Int) from rfl, u64_and_nat _ _ lw (by decide), e3, hc]
  · rw [show ((c : Int) / 256) = ((c / 256 : Nat) : Int) from div_cast c 256, wrap_add _ _ o1, hd]
  · rw [show ((d : Int) / 65536) = ((d / 65536 : Nat) : Int) from div_cast d 65536, wrap_add _ _ o2, he]
  · rw [show ((e : Int) / 4294967296) = ((e / 4294967296 : Nat) : Int) from div_cast e 4294967296, wrap_add _ _ o3, hf]

theorem i64_wrap_nat (a : Nat) (h : a < 9223372036854775808) : IntKind.i64.wrap (a : Int) = (a : Int) := IntWalk.i64_in _ (by omega)

theorem ones_last (f p : Nat) (hf : f < 9223372036854775808) (hp : f % 128 = p) : bits BinOp.and IntKind.i64 (f : Int) 127 = (p : Int) := by
  have h1 : (BitVec.ofInt 64 (f : Int)).toNat = f := ofInt_u64 f (by omega)
  have e : (BitVec.ofInt 64 (f : Int) &&& BitVec.ofInt 64 127).toNat = p := by
    rw [BitVec.toNat_and, h1, show (BitVec.ofInt 64 127).toNat = 127 from rfl, nat_mask7, hp]
  show IntKind.i64.wrap ((BitVec.ofInt 64 (f : Int) &&& BitVec.ofInt 64 127).toNat : Int) = _
  rw [e]
  exact i64_wrap_nat _ (by omega)

theorem tz_key (x a : Nat) (hx : x < 18446744073709551616) (hx0 : x ≠ 0) (hlow : x &&& (18446744073709551616 - x) = a) :
    IntKind.u64.wrap (bits BinOp.and IntKind.u64 (x : Int) (IntKind.u64.wrap (-(x : Int))) * 285870213051353865) / 288230376151711744 = ((a * 285870213051353865 % 18446744073709551616 / 288230376151711744 : Nat) : Int) := by
  have e1 : IntKind.u64.wrap (-(x : Int)) = ((18446744073709551616 - x : Nat) : Int) := by rw [IntKind.wrap_u64]; omega
  rw [e1, u64_and_nat x _ hx (by omega), hlow, IntKind.wrap_u64]
  omega

end Go.Proofs.YtkogeeaoppkhkaaDoor.Ma
