/-
  Lists of what is asked that came in, as the walks take them.
-/
import Derived.Test.YtmdjhjfmnkileaaObj4
import Derived.Lib.SmallJoins
import Derived.Deep.Slices
namespace Go.Proofs.Ytmdjhjfmnkileaa
open Go.Joins Go.ChangeShapes Go.WideShapes Go.RowKit Go.Deep

section
variable {H : Type} {enc : TypeId × Value → H} {w : World} {base : Nat} {spare : Nat → Bool} {held : Bool}
theorem word_nat {i : Int} (h : (Lit.int .u64 i).wf = true) : ∃ m : Nat, i = (m : Int) ∧ m < 18446744073709551616 := by
  have h' := h
  simp only [Lit.wf, Bool.and_eq_true, decide_eq_true_eq] at h'
  have hmin : IntKind.u64.min = 0 := rfl
  have hmax : IntKind.u64.max = 18446744073709551615 := rfl
  exact ⟨i.toNat, by omega, by omega⟩
theorem elem_o {n : Nat} {cs : List Value} {y : DataW H × List MemPlace} (h : DataW.trod enc Try.prog w base spare held n 40 cs = some y) (hl : cs.length = 2) :
    ∃ (a b : Nat), cs = [.int .u64 (a : Int), .int .u64 (b : Int)] ∧ a < 18446744073709551616 ∧ b < 18446744073709551616 := by
  match cs, hl with
  | [c0, c1], _ =>
    obtain ⟨y0, y1, m, _, _, h0, h1⟩ := trod_struct2 Try.underlying40 h
    have cI : Try.prog.cellsOf 29 = 1 := by kernel_rfl
    simp only [cI, List.drop_zero, List.drop_succ_cons, List.take_succ_cons, List.take_zero] at h0 h1
    obtain ⟨k, e0, _, w0⟩ := DataW.trod_int Try.underlying29 h0
    obtain ⟨a, e1, _, w1⟩ := DataW.trod_int Try.underlying29 h1
    simp at e0 e1
    subst e0 e1
    obtain ⟨k, rfl, hk⟩ := word_nat w0
    obtain ⟨a, rfl, ha⟩ := word_nat w1
    exact ⟨k, a, rfl, hk, ha⟩
theorem row_o {fuel : Nat} {a : Option Addr} {len cap : Nat} {y : DataW H × List MemPlace} (h : DataW.trod enc Try.prog w base spare held fuel 22 [.slice a len cap] = some y) :
    ∃ f : Nat → Op2, RowO w a len f ∧ len < 9223372036854775808 := by
  rcases open_slice Try.underlying22 h with ⟨hcs, _⟩ | ⟨x, l, c, m, n, D, Pl, hcs, hb, hl, hm, hmm, _, hx⟩
  · simp at hcs
    obtain ⟨rfl, rfl, rfl⟩ := hcs
    exact ⟨fun _ => (0, 0), ⟨fun _ => ⟨by simp, by simp⟩, fun h => absurd h (by omega)⟩, by omega⟩
  · simp at hcs
    obtain ⟨rfl, rfl, rfl⟩ := hcs
    have cO : Try.prog.cellsOf 40 = 2 := by kernel_rfl
    rw [cO] at hx
    have hlm : len ≤ m := by rw [hmm]; split <;> omega
    obtain ⟨q, hq⟩ := choose_lt (α := Nat × Nat) (n := len) (p := fun i q => w.cell? (x.add (i * 2)) = some (.int .u64 (q.1 : Int)) ∧ w.cell? ((x.add (i * 2)).add 1) = some (.int .u64 (q.2 : Int)) ∧ q.1 < 18446744073709551616 ∧ q.2 < 18446744073709551616) (fun i hi => by
      obtain ⟨cs', h1, h2⟩ := hx i (by omega)
      obtain ⟨_, hlen, hcell⟩ := World.cells?_some h1
      obtain ⟨k, a, rfl, hk, ha⟩ := elem_o h2 hlen
      have e0 := hcell 0 (by omega)
      have e1 := hcell 1 (by omega)
      refine ⟨(k, a), ?_, e1, hk, ha⟩
      have : (x.add (i * 2)).add 0 = x.add (i * 2) := by unfold Addr.add; split <;> simp_all
      rw [this] at e0
      exact e0)
    refine ⟨fun j => if j < len then q j else (0, 0), ⟨fun j => ?_, fun h0 => ?_⟩, by unfold maxLen at hm; omega⟩
    · by_cases hj : j < len
      · simp only [if_pos hj]; exact (hq j hj).2.2
      · simp only [if_neg hj]; exact ⟨by omega, by omega⟩
    · obtain ⟨b, off, spot⟩ := x
      have hspot : spot = none := by simpa [Addr.add] using World.cell?_spot (hq 0 h0).1
      subst hspot
      have key : ∀ j, j < len → _ := fun j hj => hq j hj
      simp only [Addr.add_lit] at key
      exact ⟨b, off, rfl, World.block_lt_of_cell? w ⟨b, off + 0 * 2, none⟩ (key 0 h0).1, fun j hj => by simp only [if_pos hj]; exact ⟨(key j hj).1, (key j hj).2.1⟩⟩
end

end Go.Proofs.Ytmdjhjfmnkileaa
