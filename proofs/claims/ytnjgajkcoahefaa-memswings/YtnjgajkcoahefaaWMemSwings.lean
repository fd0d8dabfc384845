/-
  The walk of the statement MemSwings: of many that swing one word from what it is to something else one succeeds.
-/
import Derived.Test.YtnjgajkcoahefaaMem5
namespace Go.Proofs.Ytnjgajkcoahefaa
open Go.RowKit

theorem new_one (w : World) : Calls Try.prog 16 #[.int .i64 1] w fun e w' => ∃ g h, e = .returned (.pointer (some ⟨g, 0, none⟩)) ∧ MemAt w' g h ⟨[0], 0, 0, 0, 0⟩ ∧ w.heap.size ≤ g ∧ w.heap.size ≤ h ∧ Below w.heap.size w w' := new_nat 1 1 w (.inr (.inl ⟨rfl, by decide⟩))
theorem o_store (x : Nat) {w : World} {g h : Nat} (m : MemAt w g h ⟨[0], 0, 0, 0, 0⟩) :
    Calls Try.prog 23 #[.pointer (some ⟨g, 0, none⟩), .int .i64 0, .int .u64 (x : Int)] w fun e w' => e = .returned (.tuple #[]) ∧ MemAt w' g h ⟨[x], 1, 0, 2, 0⟩ ∧ Else g h w w' :=
  store_any g h _ 0 x w m (show (0 : Nat) < 4611686018427387904 by decide) (show (0 : Nat) < 4611686018427387904 by decide)
theorem o_swing_yes {k : Nat} {kd : Int} (v x : Nat) {w : World} {g h : Nat} (m : MemAt w g h ⟨[v], k, 0, kd, 0⟩) (hk : k < 1000) :
    Calls Try.prog 24 #[.pointer (some ⟨g, 0, none⟩), .int .i64 0, .int .u64 (v : Int), .int .u64 (x : Int)] w fun e w' => e = .returned (.bool true) ∧ MemAt w' g h ⟨[x], k + 1, 0, 4, 0⟩ ∧ Else g h w w' := by
  refine (swing_any g h _ 0 v x w m (show k < _ by omega) (show (0 : Nat) < 4611686018427387904 by decide)).mono ?_
  rintro e w' ⟨rfl, m1, e1⟩
  have hs : MSt.swings ⟨[v], k, 0, kd, 0⟩ 0 v = true := by simp [MSt.swings, inM, MSt.rd]
  unfold MSt.swung at m1
  rw [hs] at m1
  exact ⟨by rw [hs], m1, e1⟩
theorem o_swing_no {k : Nat} {kd : Int} (v o x : Nat) {w : World} {g h : Nat} (m : MemAt w g h ⟨[v], k, 0, kd, 0⟩) (hk : k < 1000) (hv : v ≠ o) :
    Calls Try.prog 24 #[.pointer (some ⟨g, 0, none⟩), .int .i64 0, .int .u64 (o : Int), .int .u64 (x : Int)] w fun e w' => e = .returned (.bool false) ∧ MemAt w' g h ⟨[v], k + 1, 0, 4, 0⟩ ∧ Else g h w w' := by
  refine (swing_any g h _ 0 o x w m (show k < _ by omega) (show (0 : Nat) < 4611686018427387904 by decide)).mono ?_
  rintro e w' ⟨rfl, m1, e1⟩
  have hs : MSt.swings ⟨[v], k, 0, kd, 0⟩ 0 o = false := by simp [MSt.swings, inM, MSt.rd, hv]
  unfold MSt.swung at m1
  rw [hs] at m1
  exact ⟨by rw [hs], m1, e1⟩
theorem o_load {k : Nat} {kd : Int} (v : Nat) {w : World} {g h : Nat} (m : MemAt w g h ⟨[v], k, 0, kd, 0⟩) (hk : k < 1000) :
    Calls Try.prog 25 #[.pointer (some ⟨g, 0, none⟩), .int .i64 0] w fun e w' => e = .returned (.int .u64 v) ∧ Else g h w w' := by
  refine (load_any g h _ 0 w m (show k < _ by omega) (show (0 : Nat) < 4611686018427387904 by decide)).mono ?_
  rintro e w' ⟨rfl, _, e1⟩
  exact ⟨by simp [inM, MSt.rd], e1⟩

set_option maxHeartbeats 1000000 in
theorem swings_few (m0 len cap : Nat) (ad : Option Addr) (f : Nat → Nat) (w : World) (hlen : len ≤ 100) (hc : Hid (Row64 w ad len f)) :
    Calls Try.prog 5 #[.int .u64 m0, .slice ad len cap] w fun e w' => e = .returned (.bool true) ∧ Below w.heap.size w w' := by
  have l1 : (len : Int) ≤ 100 := by omega
  go_enter Try.func5, Try.ntmps5
  go_wp2_with fail
  refine (speaks3 _).mono ?_
  rintro e w1 ⟨rfl, hb⟩
  have B1 := Lib.hid hb
  clear hb
  go_wp2_with fail
  refine (new_one _).mono ?_
  rintro e w2 ⟨g, h, rfl, m2, hg, hh, hb⟩
  have hg' : w.heap.size ≤ g := Nat.le_trans B1.out.size hg
  have hh' : w.heap.size ≤ h := Nat.le_trans B1.out.size hh
  have B2 := Lib.hid (below_then B1.out hb)
  clear hb
  go_wp2_with fail
  refine (o_store m0 m2).mono ?_
  rintro e w3 ⟨rfl, m3, hx⟩
  have B3 := Lib.hid (below_else B2.out hg' hh' hx)
  clear hx m2
  go_wp2_with fail
  go_loopw [6, 7, 22] (fun t r u wr => ∃ (k v won : Nat) (kd : Int), k ≤ len ∧ t = .int .i64 won ∧ r = .int .u64 v ∧ u = .int .i64 k ∧ MemAt wr g h ⟨[v], k + 1, 0, kd, 0⟩ ∧ Below w.heap.size w wr ∧ ((v = m0 ∧ won = 0) ∨ (v ≠ m0 ∧ won = 1))) (fun _ _ u _ => len - (intOf u).toNat)
  case atStart => exact ⟨0, m0, 0, 2, Nat.zero_le _, rfl, rfl, rfl, m3, B3.out, .inl ⟨rfl, rfl⟩⟩
  case round =>
    obtain ⟨k, v, won, kd, hk, rfl, rfl, rfl, mr, hbr, hv⟩ := hrel
    have BR := Lib.hid hbr
    clear hbr m3
    by_cases hl : k < len
    · obtain ⟨b, off, rfl, hcell⟩ := (hc.out.next BR.out).at hl
      have hF := hc.out.1 k
      have l2 : (k : Int) < (len : Int) := by omega
      generalize f k = x at *
      rcases hv with ⟨rfl, rfl⟩ | ⟨hv, rfl⟩
      · by_cases hxv : x = v
        · subst hxv
          go_wp2_with fail
          refine (o_swing_yes x x mr (by omega)).mono ?_
          rintro e w4 ⟨rfl, m4, hx⟩
          have B4 := Lib.hid (below_else BR.out hg' hh' hx)
          clear hx mr
          go_wp2_with fail
          go_roundw
          case rel => exact ⟨k + 1, x, 0, 4, by omega, by go_num, rfl, by go_num, m4, B4.out, .inl ⟨rfl, rfl⟩⟩
          case measure => simp [intOf]; omega
        · have hne : ((x : Int) == (v : Int)) = false := by simp; omega
          have HX := Lib.hid hxv
          clear hxv
          go_wp2_with fail
          refine (o_swing_yes v x mr (by omega)).mono ?_
          rintro e w4 ⟨rfl, m4, hx⟩
          have B4 := Lib.hid (below_else BR.out hg' hh' hx)
          clear hx mr
          go_wp2_with fail
          go_roundw
          case rel => exact ⟨k + 1, x, 1, 4, by omega, by go_num, rfl, by go_num, m4, B4.out, .inr ⟨HX.out, rfl⟩⟩
          case measure => simp [intOf]; omega
      · have HV := Lib.hid hv
        clear hv
        go_wp2_with fail
        refine (o_swing_no v m0 x mr (by omega) HV.out).mono ?_
        rintro e w4 ⟨rfl, m4, hx⟩
        have B4 := Lib.hid (below_else BR.out hg' hh' hx)
        clear hx mr
        go_wp2_with fail
        go_roundw
        case rel => exact ⟨k + 1, v, 1, 4, by omega, rfl, rfl, by go_num, m4, B4.out, .inr ⟨HV.out, rfl⟩⟩
        case measure => simp [intOf]; omega
    · obtain rfl : k = len := by omega
      have hw1 : (won : Int) ≤ 1 := by omega
      clear hv
      go_wp2_with fail
      refine (o_load v mr (by omega)).mono ?_
      rintro e w4 ⟨rfl, hx⟩
      have B4 := Lib.hid (below_else BR.out hg' hh' hx)
      clear hx mr
      go_wp2_with fail
      go_ret
      exact ⟨rfl, B4.out⟩

set_option maxHeartbeats 1000000 in
theorem swings_many (m0 len cap : Nat) (ad : Option Addr) (w : World) (hlen : ¬ len ≤ 100) (hlen2 : len < 9223372036854775808) :
    Calls Try.prog 5 #[.int .u64 m0, .slice ad len cap] w fun e w' => e = .returned (.bool true) ∧ Below w.heap.size w w' := by
  have l1 : (100 : Int) < (len : Int) := by omega
  go_enter Try.func5, Try.ntmps5
  go_wp2_with fail
  refine (speaks3 _).mono ?_
  rintro e w1 ⟨rfl, hb⟩
  have HB := Lib.hid hb
  clear hb
  go_wp2_with fail
  go_ret
  exact ⟨rfl, HB.out⟩

theorem swings_walk (m : Nat) (a : Option Addr) (len cap : Nat) (zs : List Int) (w : World) (hz : IsRow .u64 w a len cap zs) :
    Calls Try.prog 5 #[.int .u64 m, .slice a len cap] w fun e w' => e = .returned (.bool true) ∧ Below w.heap.size w w' := by
  obtain ⟨f, hf⟩ := hz.row
  have hl := hz.len
  unfold maxLen at hl
  by_cases h2 : len ≤ 100
  · exact swings_few m len cap a f w h2 hf
  · exact swings_many m len cap a w h2 (by omega)

end Go.Proofs.Ytnjgajkcoahefaa
