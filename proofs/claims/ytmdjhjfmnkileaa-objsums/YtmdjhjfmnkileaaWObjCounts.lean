/-
  The walk of the statement ObjCounts: whatever is added, a counter answers, and is, what the document says.
-/
import Derived.Test.YtmdjhjfmnkileaaObj5
namespace Go.Proofs.Ytmdjhjfmnkileaa
open Go.RowKit Go.Sort

theorem replay_c (a : Option Addr) (len cap : Nat) (f : Nat → Op2) (w : World) (h : Hid (RowO w a len f)) (hl : len ≤ 1048576) :
    Calls Try.prog 9 #[.iface 28 (.agg #[]), .slice a len cap] w fun e w' => ∃ va b x, e = .returned (.tuple #[va, .slice (some ⟨b, 0, none⟩) 1 1]) ∧ OpRow w' va (repA none (opsOf f len)) ∧ w'.cell? ⟨b, 0, none⟩ = some (.int .u64 (x : Nat)) ∧ repW none (opsOf f len) = [x] ∧ b < w'.heap.size ∧ Below w.heap.size w w' :=
  (replay_any none a len cap f w h hl).mono (by
    rintro e w' ⟨va, b, rfl, h1, h2, _, _, hb⟩
    obtain ⟨x, hx⟩ := repW_one (opsOf f len)
    rw [hx] at h2
    exact ⟨va, b, x, rfl, h1, by rw [cell_of h2]; rfl, hx, heap_lt h2, hb⟩)
theorem row_of {w : World} {v : Value} {l : List Op2} {f : Nat → Op2} {n : Nat} (h : OpRow w v l) (e : l = repA none (opsOf f n)) (ok : Okay (opsOf f n)) : ∃ a c, v = .slice a n c ∧ RowO w a n (fun j => l.getD j (0, 0)) := by
  have hl : l.length = n := by rw [e, repA_len, opsOf_len]
  have := h.row (by rw [e]; exact repA_lt _ _ ok)
  rw [hl] at this
  exact this
set_option maxRecDepth 20000 in
set_option maxHeartbeats 2000000 in
theorem counts_walk (a : Option Addr) (len cap : Nat) (f : Nat → Op2) (w : World) (h : Hid (RowO w a len f)) (hl : len < 9223372036854775808) :
    Calls Try.prog 3 #[.slice a len cap] w fun e w' => e = .returned (.bool true) ∧ Below w.heap.size w w' := by
  go_enter Try.func3, Try.ntmps3
  go_wp2_with fail
  refine (speaks9 _).mono ?_
  rintro e w1 ⟨rfl, hb⟩
  have B1 := Lib.hid hb
  clear hb
  by_cases k1 : 200 < len
  · have d1 : decide (200 < len) = true := by simpa using k1
    have d1' : decide ((200 : Int) < (len : Int)) = true := by simp; omega
    go_wp2_with fail
    go_ret
    exact ⟨rfl, B1.out⟩
  have d1 : decide (200 < len) = false := by simpa using k1
  have d1' : decide ((200 : Int) < (len : Int)) = false := by simp; omega
  have OK := Lib.hid (okay_ops h.out len)
  go_wp2_with fail
  refine (replay_c a len cap f _ (Lib.hid (h.out.next B1.out)) (by omega)).mono ?_
  rintro e w2 ⟨va, b, x, rfl, h1, h2, h3, h4, hb⟩
  have B2 := Lib.hid (below_two B1.out hb)
  obtain ⟨aa, ca, rfl, R1⟩ := row_of h1 rfl OK.out
  have R1' := Lib.hid R1
  have X3 := Lib.hid h3
  clear hb h1 h3 R1
  go_wp2_with fail
  refine (count_any a len cap f _ (Lib.hid (h.out.next B2.out)) (by omega)).mono ?_
  rintro e w3 ⟨vb, y, rfl, g1, g2, hb⟩
  have B3 := Lib.hid (below_two B2.out hb)
  obtain ⟨ab, cb, rfl, R2⟩ := row_of g1 rfl OK.out
  have R2' := Lib.hid R2
  have R3' := Lib.hid (R1'.out.next hb)
  have c2 := (hb.cell (p := ⟨b, 0, none⟩) h4).trans h2
  have l2 : b < w3.heap.size := Nat.lt_of_lt_of_le h4 hb.size
  obtain rfl : x = y := by have := X3.out.symm.trans g2; simpa using this
  clear hb g1 g2 R2 h2 h4 X3
  go_wp2_with fail
  refine (same_any aa ab len ca cb _ _ _ R3' R2' (Lib.hid fun j _ => rfl) (by omega)).mono ?_
  rintro e w4 ⟨rfl, hb⟩
  have B4 := Lib.hid (below_two B3.out hb)
  have c3 := (hb.cell (p := ⟨b, 0, none⟩) l2).trans c2
  clear hb c2
  go_wp2_with fail
  refine (cwords9_any _).mono ?_
  rintro e w5 ⟨rfl, hb⟩
  have B5 := Lib.hid (below_two B4.out hb)
  clear hb
  go_wp2_with fail
  go_ret
  exact ⟨rfl, B5.out⟩

end Go.Proofs.Ytmdjhjfmnkileaa
