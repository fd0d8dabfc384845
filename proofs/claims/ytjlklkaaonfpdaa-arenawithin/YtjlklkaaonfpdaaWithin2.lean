/-
  ArenaWithin where the system may not be.
-/
import Derived.Test.YtjlklkaaonfpdaaWithin1
namespace Go.Proofs.Ytjlklkaaonfpdaa
open Go.RowKit Go.Sort

set_option maxRecDepth 20000 in
set_option maxHeartbeats 4000000 in
theorem within5_no (W S B T : Int) (ad : Option Addr) (len cap : Nat) (f : Nat → Int) (k0 o0 o1 by_ : Nat) (w : World) (hr : Hid (RowI w ad len f)) (hl : len < 9223372036854775808) (hm : Hid (mayB W S B T len f = false)) :
    Calls Try.prog 8 #[.agg #[.int .i64 W, .int .i64 S, .int .i64 B, .int .i64 T, .slice ad len cap, .int .u8 k0, .int .u8 o0, .int .u8 o1, .int .u16 by_]] w fun e w' => e = .returned (.bool true) ∧ Below w.heap.size w w' := by
  have hb0 := below_alloc w (.cells #[.int .i64 W, .int .i64 S, .int .i64 B, .int .i64 T, .slice ad len cap, .int .u8 k0, .int .u8 o0, .int .u8 o1, .int .u16 by_] 48)
  have R0 := Lib.hid (hr.out.next hb0)
  have B0 := Lib.hid hb0
  clear hb0
  go_enter Try.func8, Try.ntmps8
  go_wp2_with fail
  refine (speaks5 _).mono ?_
  rintro e w1 ⟨rfl, hb⟩
  have c0 := (hb.cell (p := ⟨w.heap.size, 0, none⟩) (by simp)).trans (by simp : _ = some (.int .i64 W))
  have c1 := (hb.cell (p := ⟨w.heap.size, 1, none⟩) (by simp)).trans (by simp : _ = some (.int .i64 S))
  have c2 := (hb.cell (p := ⟨w.heap.size, 2, none⟩) (by simp)).trans (by simp : _ = some (.int .i64 B))
  have c3 := (hb.cell (p := ⟨w.heap.size, 3, none⟩) (by simp)).trans (by simp : _ = some (.int .i64 T))
  have c4 := (hb.cell (p := ⟨w.heap.size, 4, none⟩) (by simp)).trans (by simp : _ = some (.slice ad len cap))
  have c5 := (hb.cell (p := ⟨w.heap.size, 5, none⟩) (by simp)).trans (by simp : _ = some (.int .u8 (k0 : Int)))
  have c6 := (hb.cell (p := ⟨w.heap.size, 6, none⟩) (by simp)).trans (by simp : _ = some (.int .u8 (o0 : Int)))
  have c7 := (hb.cell (p := ⟨w.heap.size, 7, none⟩) (by simp)).trans (by simp : _ = some (.int .u8 (o1 : Int)))
  have c8 := (hb.cell (p := ⟨w.heap.size, 8, none⟩) (by simp)).trans (by simp : _ = some (.int .u16 (by_ : Int)))
  have B1 := Lib.hid (below_after B0.out hb)
  have R1 := Lib.hid (R0.out.next hb)
  have hlt : w.heap.size < w1.heap.size := World.block_lt_of_cell? w1 ⟨w.heap.size, 0, none⟩ c0
  clear hb B0 R0
  go_wp2_with fail
  go_cut [3, 4, 5, 6] (fun v3 v4 v5 v6 wx => ∃ p q, v3 = .pointer (some ⟨p, 0, none⟩) ∧ v4 = .int .u8 (k0 : Int) ∧ v5 = .pointer (some ⟨q, 0, none⟩) ∧ v6 = .int .u16 (by_ : Int) ∧ Wi w wx p q W S B T ad len cap f o0 o1)
  case first =>
    go_region
    case' _ =>
      have D := Lib.hid (Wi.new1 (W := W) (S := S) (B := B) (T := T) (cap := cap) (o0 := o0) (o1 := o1) R1.out B1.out _ _ rfl rfl)
    rotate_left
    case' _ =>
      have D := Lib.hid (Wi.new2 (W := W) (S := S) (B := B) (T := T) (cap := cap) (o0 := o0) (o1 := o1) R1.out B1.out _ _ rfl rfl)
    all_goals
      go_wp2_with fail
      go_meet
      case rel => exact ⟨_, _, rfl, rfl, rfl, rfl, D.out⟩
  case rest =>
    obtain ⟨N, M, rfl, rfl, rfl, rfl, dd⟩ := hcut
    have D := Lib.hid dd
    clear dd c0 c1 c2 c3 c4 c5 c6 c7 c8 hlt R1 B1
    obtain ⟨c0, c1, c2, c3, c4⟩ := cfg_cells D.out.c
    go_wp2_with fail
    refine (rmay_any W S B T ad len cap f _ D.out.r hl).mono ?_
    rintro e wb ⟨he, hb⟩
    obtain rfl : e = .returned (.bool false) := by rw [he, hm.out]
    have K2 := Lib.hid (D.out.next hb)
    clear hb D c0 c1 c2 c3 c4 he
    go_wp2_with fail
    go_ret
    exact ⟨rfl, K2.out.b⟩

end Go.Proofs.Ytjlklkaaonfpdaa
