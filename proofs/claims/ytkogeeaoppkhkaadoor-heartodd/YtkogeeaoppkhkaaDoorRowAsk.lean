/-
  Lists of what is asked of a Heart, as the walks of layer 11 take them.
-/
import Derived.Test.YtkogeeaoppkhkaaDoorMemM
import Derived.Lib.SmallJoins
import Derived.Deep.Slices
namespace Go.Proofs.YtkogeeaoppkhkaaDoor
open Go.Joins Go.ChangeShapes Go.WideShapes Go.RowKit Go.Deep

/-- What is asked: kind, number, a set, and a raw Op. -/
structure Qk where
  k : Int
  n : Int
  m : Nat
  a : Nat
  d : Nat
instance : Inhabited Qk := ⟨⟨0, 0, 0, 0, 0⟩⟩
def Qk.fine (q : Qk) : Prop := (-9223372036854775808 ≤ q.n ∧ q.n < 9223372036854775808) ∧ q.m < 18446744073709551616 ∧ q.a < 18446744073709551616 ∧ q.d < 18446744073709551616
def RowK (w : World) (a : Option Addr) (len : Nat) (Q : Nat → Qk) : Prop :=
  (len ≤ maxLen ∧ ∀ j, j < len → (Q j).fine) ∧ (0 < len → ∃ b off, a = some ⟨b, off, none⟩ ∧ b < w.heap.size ∧ ∀ j, j < len → w.cell? ⟨b, off + j * 5, none⟩ = some (.int .i64 (Q j).k) ∧ w.cell? ⟨b, off + j * 5 + 1, none⟩ = some (.int .i64 (Q j).n) ∧
    w.cell? ⟨b, off + j * 5 + 2, none⟩ = some (.int .u64 ((Q j).m : Nat)) ∧ w.cell? ⟨b, off + j * 5 + 3, none⟩ = some (.int .u64 ((Q j).a : Nat)) ∧ w.cell? ⟨b, off + j * 5 + 4, none⟩ = some (.int .u64 ((Q j).d : Nat)))
theorem RowK.next {w w' : World} {a : Option Addr} {len : Nat} {Q : Nat → Qk} (h : RowK w a len Q) (hb : Below w.heap.size w w') : RowK w' a len Q :=
  ⟨h.1, fun h0 => by
    obtain ⟨b, off, e, hl, hc⟩ := h.2 h0
    refine ⟨b, off, e, Nat.lt_of_lt_of_le hl hb.size, fun j hj => ?_⟩
    obtain ⟨c0, c1, c2, c3, c4⟩ := hc j hj
    exact ⟨(hb.cell (p := ⟨b, off + j * 5, none⟩) hl).trans c0, (hb.cell (p := ⟨b, off + j * 5 + 1, none⟩) hl).trans c1, (hb.cell (p := ⟨b, off + j * 5 + 2, none⟩) hl).trans c2, (hb.cell (p := ⟨b, off + j * 5 + 3, none⟩) hl).trans c3, (hb.cell (p := ⟨b, off + j * 5 + 4, none⟩) hl).trans c4⟩⟩
theorem RowK.at {w : World} {a : Option Addr} {len j : Nat} {Q : Nat → Qk} (h : RowK w a len Q) (hj : j < len) : ∃ b off, a = some ⟨b, off, none⟩ ∧ (Q j).fine ∧ w.cell? ⟨b, off + j * 5, none⟩ = some (.int .i64 (Q j).k) ∧ w.cell? ⟨b, off + j * 5 + 1, none⟩ = some (.int .i64 (Q j).n) ∧
    w.cell? ⟨b, off + j * 5 + 2, none⟩ = some (.int .u64 ((Q j).m : Nat)) ∧ w.cell? ⟨b, off + j * 5 + 3, none⟩ = some (.int .u64 ((Q j).a : Nat)) ∧ w.cell? ⟨b, off + j * 5 + 4, none⟩ = some (.int .u64 ((Q j).d : Nat)) := by
  obtain ⟨b, off, e, _, hc⟩ := h.2 (by omega)
  exact ⟨b, off, e, h.1.2 j hj, hc j hj⟩

section
variable {H : Type} {enc : TypeId × Value → H} {w : World} {base : Nat} {spare : Nat → Bool} {held : Bool}
theorem elem_ask {n : Nat} {cs : List Value} {y : DataW H × List MemPlace} (h : DataW.trod enc Tryd.prog w base spare held n 39 cs = some y) (hl : cs.length = 5) :
    ∃ q : Qk, q.fine ∧ cs = [.int .i64 q.k, .int .i64 q.n, .int .u64 (q.m : Int), .int .u64 (q.a : Int), .int .u64 (q.d : Int)] := by
  match cs, hl with
  | [c0, c1, c2, c3, c4], _ =>
    obtain ⟨y0, y1, y2, y3, m, _, _, h0, h1, h2, h3⟩ := trod_struct4 Tryd.underlying39 h
    have cI : Tryd.prog.cellsOf 3 = 1 := by kernel_rfl
    have cU : Tryd.prog.cellsOf 35 = 1 := by kernel_rfl
    have cO : Tryd.prog.cellsOf 37 = 2 := by kernel_rfl
    simp only [cI, cU, cO, List.drop_zero, List.drop_succ_cons, List.take_succ_cons, List.take_zero] at h0 h1 h2 h3
    obtain ⟨z0, z1, m2, _, _, g0, g1⟩ := trod_struct2 Tryd.underlying37 h3
    simp only [cU, List.drop_zero, List.drop_succ_cons, List.take_succ_cons, List.take_zero] at g0 g1
    obtain ⟨k, e0, _, w0⟩ := DataW.trod_int Tryd.underlying3 h0
    obtain ⟨a, e1, _, w1⟩ := DataW.trod_int Tryd.underlying3 h1
    obtain ⟨x, e2, _, w2⟩ := DataW.trod_int Tryd.underlying35 h2
    obtain ⟨o, e3, _, w3⟩ := DataW.trod_int Tryd.underlying35 g0
    obtain ⟨p, e4, _, w4⟩ := DataW.trod_int Tryd.underlying35 g1
    simp at e0 e1 e2 e3 e4
    subst e0 e1 e2 e3 e4
    have b1 := bounds_i64 w1
    have b2 := bounds_u64 w2
    have b3 := bounds_u64 w3
    have b4 := bounds_u64 w4
    exact ⟨⟨k, a, x.toNat, o.toNat, p.toNat⟩, ⟨⟨by simp only; omega, by simp only; omega⟩, by simp only; omega, by simp only; omega, by simp only; omega⟩, by simp only; rw [Int.toNat_of_nonneg b2.1, Int.toNat_of_nonneg b3.1, Int.toNat_of_nonneg b4.1]⟩

theorem row_ask {fuel : Nat} {a : Option Addr} {len cap : Nat} {y : DataW H × List MemPlace} (h : DataW.trod enc Tryd.prog w base spare held fuel 25 [.slice a len cap] = some y) :
    ∃ Q : Nat → Qk, RowK w a len Q := by
  rcases open_slice Tryd.underlying25 h with ⟨hcs, _⟩ | ⟨x, l, c, m, n, D, Pl, hcs, hb, hl, hm, hmm, _, hx⟩
  · simp at hcs
    obtain ⟨rfl, rfl, rfl⟩ := hcs
    exact ⟨fun _ => ⟨0, 0, 0, 0, 0⟩, ⟨Nat.zero_le _, fun _ h => absurd h (by omega)⟩, fun h => absurd h (by omega)⟩
  · simp at hcs
    obtain ⟨rfl, rfl, rfl⟩ := hcs
    have cO : Tryd.prog.cellsOf 39 = 5 := by kernel_rfl
    rw [cO] at hx
    have hlm : len ≤ m := by rw [hmm]; split <;> omega
    obtain ⟨q, hq⟩ := choose_lt (α := Qk) (n := len) (p := fun i q => w.cell? (x.add (i * 5)) = some (.int .i64 q.k) ∧ w.cell? ((x.add (i * 5)).add 1) = some (.int .i64 q.n) ∧ w.cell? ((x.add (i * 5)).add 2) = some (.int .u64 ((q.m : Nat) : Int)) ∧ w.cell? ((x.add (i * 5)).add 3) = some (.int .u64 ((q.a : Nat) : Int)) ∧ w.cell? ((x.add (i * 5)).add 4) = some (.int .u64 ((q.d : Nat) : Int)) ∧ q.fine) (fun i hi => by
      obtain ⟨cs', h1, h2⟩ := hx i (by omega)
      obtain ⟨_, hlen, hcell⟩ := World.cells?_some h1
      obtain ⟨q, hf, rfl⟩ := elem_ask h2 hlen
      have e0 := hcell 0 (by omega)
      have e1 := hcell 1 (by omega)
      have e2 := hcell 2 (by omega)
      have e3 := hcell 3 (by omega)
      have e4 := hcell 4 (by omega)
      refine ⟨q, ?_, e1, e2, e3, e4, hf⟩
      have : (x.add (i * 5)).add 0 = x.add (i * 5) := by unfold Addr.add; split <;> simp_all
      rw [this] at e0
      exact e0)
    refine ⟨q, ⟨by omega, fun j hj => (hq j hj).2.2.2.2.2⟩, fun h0 => ?_⟩
    obtain ⟨b, off, spot⟩ := x
    have hspot : spot = none := by simpa [Addr.add] using World.cell?_spot (hq 0 h0).1
    subst hspot
    have key : ∀ j, j < len → _ := fun j hj => (fun h => (⟨h.1, h.2.1, h.2.2.1, h.2.2.2.1, h.2.2.2.2.1⟩ : _ ∧ _ ∧ _ ∧ _ ∧ _)) (hq j hj)
    simp only [Addr.add_lit] at key
    exact ⟨b, off, rfl, World.block_lt_of_cell? w ⟨b, off + 0 * 5, none⟩ (key 0 h0).1, key⟩
end

end Go.Proofs.YtkogeeaoppkhkaaDoor
