/-
  The walk of the statement MemAdds: whatever is added to a word is in it, going round; each addition answers what was there ahead of it.
-/
import Derived.Test.YtnjgajkcoahefaaMem5
namespace Go.Proofs.Ytnjgajkcoahefaa
open Go.RowKit

theorem new_three (w : World) : Calls Try.prog 16 #[.int .i64 3] w fun e w' => ∃ g h, e = .returned (.pointer (some ⟨g, 0, none⟩)) ∧ MemAt w' g h ⟨[0, 0, 0], 0, 0, 0, 0⟩ ∧ w.heap.size ≤ g ∧ w.heap.size ≤ h ∧ Below w.heap.size w w' := new_nat 3 3 w (.inr (.inl ⟨rfl, by decide⟩))
theorem t_add {k : Nat} {kd a : Int} (v x : Nat) {w : World} {g h : Nat} (m : MemAt w g h ⟨[0, v, 0], k, 0, kd, a⟩) (hk : k < 1000) :
    Calls Try.prog 27 #[.pointer (some ⟨g, 0, none⟩), .int .i64 1, .int .u64 (x : Int)] w fun e w' => e = .returned (.int .u64 v) ∧ MemAt w' g h ⟨[0, (v + x) % 18446744073709551616, 0], k + 1, 0, 5, 1⟩ ∧ Else g h w w' :=
  add_any g h _ 1 x w m (show k < _ by omega) (show (0 : Nat) < 4611686018427387904 by decide)
theorem t_load1 {k : Nat} {kd a : Int} (v : Nat) {w : World} {g h : Nat} (m : MemAt w g h ⟨[0, v, 0], k, 0, kd, a⟩) (hk : k < 1000) :
    Calls Try.prog 25 #[.pointer (some ⟨g, 0, none⟩), .int .i64 1] w fun e w' => e = .returned (.int .u64 v) ∧ MemAt w' g h ⟨[0, v, 0], k + 1, 0, 1, 1⟩ ∧ Else g h w w' :=
  load_any g h _ 1 w m (show k < _ by omega) (show (0 : Nat) < 4611686018427387904 by decide)
theorem t_load0 {k : Nat} {kd a : Int} (v : Nat) {w : World} {g h : Nat} (m : MemAt w g h ⟨[0, v, 0], k, 0, kd, a⟩) (hk : k < 1000) :
    Calls Try.prog 25 #[.pointer (some ⟨g, 0, none⟩), .int .i64 0] w fun e w' => e = .returned (.int .u64 0) ∧ MemAt w' g h ⟨[0, v, 0], k + 1, 0, 1, 0⟩ ∧ Else g h w w' :=
  load_any g h _ 0 w m (show k < _ by omega) (show (0 : Nat) < 4611686018427387904 by decide)
theorem t_load2 {k : Nat} {kd a : Int} (v : Nat) {w : World} {g h : Nat} (m : MemAt w g h ⟨[0, v, 0], k, 0, kd, a⟩) (hk : k < 1000) :
    Calls Try.prog 25 #[.pointer (some ⟨g, 0, none⟩), .int .i64 2] w fun e w' => e = .returned (.int .u64 0) ∧ MemAt w' g h ⟨[0, v, 0], k + 1, 0, 1, 2⟩ ∧ Else g h w w' :=
  load_any g h _ 2 w m (show k < _ by omega) (show (0 : Nat) < 4611686018427387904 by decide)

set_option maxHeartbeats 1000000 in
theorem adds_few (len cap : Nat) (ad : Option Addr) (f : Nat → Nat) (w : World) (hlen : len ≤ 200) (hc : Hid (Row64 w ad len f)) :
    Calls Try.prog 7 #[.slice ad len cap] w fun e w' => e = .returned (.bool true) ∧ Below w.heap.size w w' := by
  have l1 : (len : Int) ≤ 200 := by omega
  go_enter Try.func7, Try.ntmps7
  go_wp2_with fail
  refine (speaks3 _).mono ?_
  rintro e w1 ⟨rfl, hb⟩
  have B1 := Lib.hid hb
  clear hb
  go_wp2_with fail
  refine (new_three _).mono ?_
  rintro e w2 ⟨g, h, rfl, m2, hg, hh, hb⟩
  have hg' : w.heap.size ≤ g := Nat.le_trans B1.out.size hg
  have hh' : w.heap.size ≤ h := Nat.le_trans B1.out.size hh
  have B2 := Lib.hid (below_then B1.out hb)
  clear hb
  go_wp2_with fail
  go_loopw [4, 15] (fun r u wr => ∃ (k v : Nat) (kd a : Int), k ≤ len ∧ r = .int .u64 v ∧ u = .int .i64 k ∧ MemAt wr g h ⟨[0, v, 0], k, 0, kd, a⟩ ∧ Below w.heap.size w wr) (fun _ u _ => len - (intOf u).toNat)
  case atStart => exact ⟨0, 0, 0, 0, Nat.zero_le _, rfl, rfl, m2, B2.out⟩
  case round =>
    obtain ⟨k, v, kd, a, hk, rfl, rfl, mr, hbr⟩ := hrel
    have BR := Lib.hid hbr
    clear hbr m2
    by_cases hl : k < len
    · obtain ⟨b, off, rfl, hcell⟩ := (hc.out.next BR.out).at hl
      have l2 : (k : Int) < (len : Int) := by omega
      generalize f k = x at *
      have HV : Hid (IntKind.u64.wrap ((v : Int) + (x : Int)) = (((v + x) % 18446744073709551616 : Nat) : Int)) := by
        show IntKind.u64.wrap ((v : Int) + (x : Int)) = _
        rw [IntKind.wrap_u64]; omega
      go_wp2_with fail
      refine (t_add v x mr (by omega)).mono ?_
      rintro e w4 ⟨rfl, m4, hx⟩
      have B4 := Lib.hid (below_else BR.out hg' hh' hx)
      clear hx mr
      go_wp2_with fail
      go_roundw
      case rel => exact ⟨k + 1, (v + x) % 18446744073709551616, 5, 1, by omega, by rw [← HV.out], by go_num, m4, B4.out⟩
      case measure => simp [intOf]; omega
    · obtain rfl : k = len := by omega
      go_wp2_with fail
      refine (t_load1 v mr (by omega)).mono ?_
      rintro e w4 ⟨rfl, m4, hx⟩
      have B4 := Lib.hid (below_else BR.out hg' hh' hx)
      clear hx mr
      go_wp2_with fail
      refine (t_load0 v m4 (by omega)).mono ?_
      rintro e w5 ⟨rfl, m5, hx⟩
      have B5 := Lib.hid (below_else B4.out hg' hh' hx)
      clear hx m4
      go_wp2_with fail
      refine (t_load2 v m5 (by omega)).mono ?_
      rintro e w6 ⟨rfl, m6, hx⟩
      have B6 := Lib.hid (below_else B5.out hg' hh' hx)
      clear hx m5 m6
      go_wp2_with fail
      go_ret
      exact ⟨rfl, B6.out⟩

set_option maxHeartbeats 1000000 in
theorem adds_many (len cap : Nat) (ad : Option Addr) (w : World) (hlen : ¬ len ≤ 200) (hlen2 : len < 9223372036854775808) :
    Calls Try.prog 7 #[.slice ad len cap] w fun e w' => e = .returned (.bool true) ∧ Below w.heap.size w w' := by
  have l1 : (200 : Int) < (len : Int) := by omega
  go_enter Try.func7, Try.ntmps7
  go_wp2_with fail
  refine (speaks3 _).mono ?_
  rintro e w1 ⟨rfl, hb⟩
  have HB := Lib.hid hb
  clear hb
  go_wp2_with fail
  go_ret
  exact ⟨rfl, HB.out⟩

theorem adds_walk (a : Option Addr) (len cap : Nat) (zs : List Int) (w : World) (hz : IsRow .u64 w a len cap zs) :
    Calls Try.prog 7 #[.slice a len cap] w fun e w' => e = .returned (.bool true) ∧ Below w.heap.size w w' := by
  obtain ⟨f, hf⟩ := hz.row
  have hl := hz.len
  unfold maxLen at hl
  by_cases h2 : len ≤ 200
  · exact adds_few len cap a f w h2 hf
  · exact adds_many len cap a w h2 (by omega)

end Go.Proofs.Ytnjgajkcoahefaa
