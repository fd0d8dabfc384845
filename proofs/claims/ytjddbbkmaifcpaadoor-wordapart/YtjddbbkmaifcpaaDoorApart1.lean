/-
  WordApart where nothing is put.
-/
import Derived.Test.YtjddbbkmaifcpaaDoorApart0
namespace Go.Proofs.YtjddbbkmaifcpaaDoor
open Go.RowKit

set_option maxRecDepth 20000 in
set_option maxHeartbeats 4000000 in
theorem apart_no1 (m n : Nat) (a b c d : Int) (w : World) (h : ¬ okF a b) (hR : Hid (RefAt w)) :
    Calls Tryd.prog 5 #[.agg #[.int .u64 m, .int .u64 n, .int .i64 a, .int .i64 b, .int .i64 c, .int .i64 d]] w fun e w' => e = .returned (.bool true) ∧ Below w.heap.size w w' := by
  have HO := Lib.hid h
  clear h
  have hRb : Hid (RefAt (w.alloc (.cells #[.int .u64 m, .int .u64 n, .int .i64 a, .int .i64 b, .int .i64 c, .int .i64 d] 37))) := hR.out.next (belowBox _ _)
  go_enter Tryd.func5, Tryd.ntmps5
  go_wp2_with fail
  refine (speaks1 _ hRb).mono ?_
  rintro e w1 ⟨rfl, hb⟩
  have c0 := (hb.cell (p := ⟨w.heap.size, 0, none⟩) (by simp)).trans (by simp : _ = some (.int .u64 (m : Int)))
  have c1 := (hb.cell (p := ⟨w.heap.size, 1, none⟩) (by simp)).trans (by simp : _ = some (.int .u64 (n : Int)))
  have c2 := (hb.cell (p := ⟨w.heap.size, 2, none⟩) (by simp)).trans (by simp : _ = some (.int .i64 a))
  have c3 := (hb.cell (p := ⟨w.heap.size, 3, none⟩) (by simp)).trans (by simp : _ = some (.int .i64 b))
  have c4 := (hb.cell (p := ⟨w.heap.size, 4, none⟩) (by simp)).trans (by simp : _ = some (.int .i64 c))
  have c5 := (hb.cell (p := ⟨w.heap.size, 5, none⟩) (by simp)).trans (by simp : _ = some (.int .i64 d))
  have B1 := Lib.hid (below_next (belowBox w _) hb)
  have hlt : w.heap.size < w1.heap.size := World.block_lt_of_cell? w1 ⟨w.heap.size, 0, none⟩ c0
  clear hb
  go_wp2_with fail
  go_region
  case' _ =>
    have D := duo_new (a := a) (b := b) (c := c) (d := d) 24 B1.out _ _ rfl rfl
    generalize World.drew _ = w2 at D ⊢
    generalize w1.heap.size + 1 = q at D ⊢
    generalize w1.heap.size = p at D ⊢
  rotate_left
  case' _ =>
    have D := duo_new2 (a := a) (b := b) (c := c) (d := d) 24 B1.out _ _ rfl rfl
    generalize World.drew _ = w2 at D ⊢
    generalize w1.heap.size + 1 = p at D ⊢
    generalize w1.heap.size = q at D ⊢
  all_goals
    clear c0 c1 c2 c3 c4 c5 hlt
    obtain ⟨d0, d1, d2, d3, d4, d5, d6, d7⟩ := D
    go_wp2_with fail
    refine (rright_no _ _ _ HO.out).mono ?_
    rintro e w' ⟨rfl, rfl⟩
    go_wp2_with fail
    go_ret
    exact ⟨rfl, d7⟩

set_option maxRecDepth 20000 in
set_option maxHeartbeats 4000000 in
theorem apart_no2 (m n : Nat) (a b c d : Int) (w : World) (h : okF a b) (h2 : ¬ okF c d) (hR : Hid (RefAt w)) :
    Calls Tryd.prog 5 #[.agg #[.int .u64 m, .int .u64 n, .int .i64 a, .int .i64 b, .int .i64 c, .int .i64 d]] w fun e w' => e = .returned (.bool true) ∧ Below w.heap.size w w' := by
  have HO := Lib.hid h
  have HO2 := Lib.hid h2
  clear h h2
  have hRb : Hid (RefAt (w.alloc (.cells #[.int .u64 m, .int .u64 n, .int .i64 a, .int .i64 b, .int .i64 c, .int .i64 d] 37))) := hR.out.next (belowBox _ _)
  go_enter Tryd.func5, Tryd.ntmps5
  go_wp2_with fail
  refine (speaks1 _ hRb).mono ?_
  rintro e w1 ⟨rfl, hb⟩
  have c0 := (hb.cell (p := ⟨w.heap.size, 0, none⟩) (by simp)).trans (by simp : _ = some (.int .u64 (m : Int)))
  have c1 := (hb.cell (p := ⟨w.heap.size, 1, none⟩) (by simp)).trans (by simp : _ = some (.int .u64 (n : Int)))
  have c2 := (hb.cell (p := ⟨w.heap.size, 2, none⟩) (by simp)).trans (by simp : _ = some (.int .i64 a))
  have c3 := (hb.cell (p := ⟨w.heap.size, 3, none⟩) (by simp)).trans (by simp : _ = some (.int .i64 b))
  have c4 := (hb.cell (p := ⟨w.heap.size, 4, none⟩) (by simp)).trans (by simp : _ = some (.int .i64 c))
  have c5 := (hb.cell (p := ⟨w.heap.size, 5, none⟩) (by simp)).trans (by simp : _ = some (.int .i64 d))
  have B1 := Lib.hid (below_next (belowBox w _) hb)
  have hlt : w.heap.size < w1.heap.size := World.block_lt_of_cell? w1 ⟨w.heap.size, 0, none⟩ c0
  clear hb
  go_wp2_with fail
  go_region
  case' _ =>
    have D := duo_new (a := a) (b := b) (c := c) (d := d) 24 B1.out _ _ rfl rfl
    generalize World.drew _ = w2 at D ⊢
    generalize w1.heap.size + 1 = q at D ⊢
    generalize w1.heap.size = p at D ⊢
  rotate_left
  case' _ =>
    have D := duo_new2 (a := a) (b := b) (c := c) (d := d) 24 B1.out _ _ rfl rfl
    generalize World.drew _ = w2 at D ⊢
    generalize w1.heap.size + 1 = p at D ⊢
    generalize w1.heap.size = q at D ⊢
  all_goals
    clear c0 c1 c2 c3 c4 c5 hlt
    obtain ⟨d0, d1, d2, d3, d4, d5, d6, d7⟩ := D
    go_wp2_with fail
    refine (rright_yes _ _ _ HO.out).mono ?_
    rintro e w' ⟨rfl, rfl⟩
    go_wp2_with fail
    refine (rright_no _ _ _ HO2.out).mono ?_
    rintro e w' ⟨rfl, rfl⟩
    go_wp2_with fail
    go_ret
    exact ⟨rfl, d7⟩

set_option maxRecDepth 20000 in
set_option maxHeartbeats 4000000 in
theorem apart_big (m n : Nat) (a b c d : Nat) (w : World) (h : okF a b) (h2 : okF c d) (h3 : ¬ n < 2 ^ b) (hR : Hid (RefAt w)) :
    Calls Tryd.prog 5 #[.agg #[.int .u64 m, .int .u64 n, .int .i64 a, .int .i64 b, .int .i64 c, .int .i64 d]] w fun e w' => e = .returned (.bool true) ∧ Below w.heap.size w w' := by
  have hab : a + b ≤ 64 := by unfold okF at h; omega
  have hcd : c + d ≤ 64 := by unfold okF at h2; omega
  have HO := Lib.hid h
  have HO2 := Lib.hid h2
  have HN : Hid (Ma.lowN b < n) := by show Ma.lowN b < n; have := Ma.fits_iff n b; omega
  clear h h2 h3
  have hRb : Hid (RefAt (w.alloc (.cells #[.int .u64 m, .int .u64 n, .int .i64 a, .int .i64 b, .int .i64 c, .int .i64 d] 37))) := hR.out.next (belowBox _ _)
  go_enter Tryd.func5, Tryd.ntmps5
  go_wp2_with fail
  refine (speaks1 _ hRb).mono ?_
  rintro e w1 ⟨rfl, hb⟩
  have c0 := (hb.cell (p := ⟨w.heap.size, 0, none⟩) (by simp)).trans (by simp : _ = some (.int .u64 (m : Int)))
  have c1 := (hb.cell (p := ⟨w.heap.size, 1, none⟩) (by simp)).trans (by simp : _ = some (.int .u64 (n : Int)))
  have c2 := (hb.cell (p := ⟨w.heap.size, 2, none⟩) (by simp)).trans (by simp : _ = some (.int .i64 a))
  have c3 := (hb.cell (p := ⟨w.heap.size, 3, none⟩) (by simp)).trans (by simp : _ = some (.int .i64 b))
  have c4 := (hb.cell (p := ⟨w.heap.size, 4, none⟩) (by simp)).trans (by simp : _ = some (.int .i64 c))
  have c5 := (hb.cell (p := ⟨w.heap.size, 5, none⟩) (by simp)).trans (by simp : _ = some (.int .i64 d))
  have B1 := Lib.hid (below_next (belowBox w _) hb)
  have hlt : w.heap.size < w1.heap.size := World.block_lt_of_cell? w1 ⟨w.heap.size, 0, none⟩ c0
  clear hb
  go_wp2_with fail
  go_region
  case' _ =>
    have D := duo_new (a := a) (b := b) (c := c) (d := d) 24 B1.out _ _ rfl rfl
    generalize World.drew _ = w2 at D ⊢
    generalize w1.heap.size + 1 = q at D ⊢
    generalize w1.heap.size = p at D ⊢
  rotate_left
  case' _ =>
    have D := duo_new2 (a := a) (b := b) (c := c) (d := d) 24 B1.out _ _ rfl rfl
    generalize World.drew _ = w2 at D ⊢
    generalize w1.heap.size + 1 = p at D ⊢
    generalize w1.heap.size = q at D ⊢
  all_goals
    clear c0 c1 c2 c3 c4 c5 hlt
    obtain ⟨d0, d1, d2, d3, d4, d5, d6, d7⟩ := D
    go_wp2_with fail
    refine (rright_yes _ _ _ HO.out).mono ?_
    rintro e w' ⟨rfl, rfl⟩
    go_wp2_with fail
    refine (rright_yes _ _ _ HO2.out).mono ?_
    rintro e w' ⟨rfl, rfl⟩
    go_wp2_with fail
    refine (put_big _ _ _ _ _ HO.out HN.out).mono ?_
    rintro e w3 ⟨rfl, hb⟩
    obtain ⟨e0, e1, e2, e3, e4, e5, e6, e7⟩ := duo_keep ⟨d0, d1, d2, d3, d4, d5, d6, d7⟩ hb
    clear hb d0 d1 d2 d3 d4 d5 d6 d7
    go_wp2_with fail
    go_ret
    exact ⟨rfl, e7⟩

end Go.Proofs.YtjddbbkmaifcpaaDoor
