/-
  The walk of the statement WordFields: any field of any word has the document's number; one that may not be has none.
-/
import Derived.Test.YtjddbbkmaifcpaaDoorWWordPuts
namespace Go.Proofs.YtjddbbkmaifcpaaDoor
open Go.RowKit

theorem box_all {w w1 : World} {a b : Int} (h : w1.cell? ⟨w.heap.size, 0, none⟩ = some (.int .i64 a) ∧ w1.cell? ⟨w.heap.size, 1, none⟩ = some (.int .i64 b) ∧ w.heap.size < w1.heap.size ∧ Below w.heap.size w w1) : w1.cell? ⟨w.heap.size, 0, none⟩ = some (.int .i64 a) ∧ w1.cell? ⟨w.heap.size, 1, none⟩ = some (.int .i64 b) ∧ w.heap.size < w1.heap.size ∧ Below w.heap.size w w1 := h

set_option maxHeartbeats 2000000 in
theorem fields_yes (m a b : Nat) (w : World) (hm : m < 18446744073709551616) (h : okF a b) (hR : Hid (RefAt w)) :
    Calls Tryd.prog 3 #[.int .u64 m, .agg #[.int .i64 a, .int .i64 b]] w fun e w' => e = .returned (.bool true) ∧ Below w.heap.size w w' := by
  have hab : a + b ≤ 64 := by unfold okF at h; omega
  have hb1 : 1 ≤ b := by unfold okF at h; omega
  have HO := Lib.hid h
  have hRb : Hid (RefAt (w.alloc (.cells #[.int .i64 (a : Int), .int .i64 (b : Int)] 24))) := hR.out.next (belowBox _ _)
  clear h
  go_enter Tryd.func3, Tryd.ntmps3
  go_wp2_with fail
  refine (speaks1 _ hRb).mono ?_
  rintro e w1 ⟨rfl, hb⟩
  obtain ⟨hc0, hc1, hlt, hbw⟩ := box_cells (by simpa using hb)
  clear hb
  go_wp2_with fail
  go_region_held3 (fun w' => w'.cell? ⟨w.heap.size, 0, none⟩ = some (.int .i64 (a : Int)) ∧ w'.cell? ⟨w.heap.size, 1, none⟩ = some (.int .i64 (b : Int)) ∧ w.heap.size < w'.heap.size ∧ Below w.heap.size w w') (first | exact ⟨hc0, hc1, hlt, hbw.drew⟩ | exact box_keep (by assumption) hbl | assumption) (first | (go_at_call 16; refine (right_yes _ _ _ HO.out).mono ?_; rintro e w2 ⟨rfl, hbl⟩) | (go_at_call 17; refine (rright_yes _ _ _ HO.out).mono ?_; rintro e w2 ⟨rfl, rfl⟩))
  all_goals
    obtain ⟨hd0, hd1, hlt2, hbw2⟩ := box_all (by assumption)
    clear hc0 hc1 hlt hbw
    go_wp2_with fail
    refine (right_yes _ _ _ HO.out).mono ?_
    rintro e w3 ⟨rfl, hb⟩
    obtain ⟨hf0, hf1, hlt3, hbw3⟩ := box_keep ⟨hd0, hd1, hlt2, hbw2⟩ hb
    clear hb hd0 hd1 hlt2 hbw2
    go_wp2_with fail
    go_region_held3 (fun w' => w'.cell? ⟨w.heap.size, 0, none⟩ = some (.int .i64 (a : Int)) ∧ w'.cell? ⟨w.heap.size, 1, none⟩ = some (.int .i64 (b : Int)) ∧ w.heap.size < w'.heap.size ∧ Below w.heap.size w w') (first | exact ⟨hf0, hf1, hlt3, hbw3.drew⟩ | exact box_keep (by assumption) hbl | assumption) (first | (go_at_call 19; refine (get_yes _ _ _ _ hm HO.out).mono ?_; rintro e w4 ⟨rfl, hbl⟩) | (go_at_call 21; refine (rget_any _ _ _ _ hm hab).mono ?_; rintro e w4 ⟨rfl, rfl⟩) | (go_at_call 20; refine (signed_yes _ _ _ _ HO.out).mono ?_; rintro e w4 ⟨rfl, hbl⟩) | (go_at_call 22; refine (rsigned_any _ _ _ _ hm hab hb1).mono ?_; rintro e w4 ⟨rfl, rfl⟩))
    all_goals
      have hB2 := box_below (by assumption)
      go_wp2
      go_ret
      exact ⟨rfl, hB2⟩

set_option maxHeartbeats 2000000 in
theorem fields_no (m : Nat) (a b : Int) (w : World) (h : ¬ okF a b) (hR : Hid (RefAt w)) :
    Calls Tryd.prog 3 #[.int .u64 m, .agg #[.int .i64 a, .int .i64 b]] w fun e w' => e = .returned (.bool true) ∧ Below w.heap.size w w' := by
  have HO := Lib.hid h
  have hRb : Hid (RefAt (w.alloc (.cells #[.int .i64 a, .int .i64 b] 24))) := hR.out.next (belowBox _ _)
  clear h
  go_enter Tryd.func3, Tryd.ntmps3
  go_wp2_with fail
  refine (speaks1 _ hRb).mono ?_
  rintro e w1 ⟨rfl, hb⟩
  obtain ⟨hc0, hc1, hlt, hbw⟩ := box_cells (by simpa using hb)
  clear hb
  go_wp2_with fail
  go_region_held3 (fun w' => w'.cell? ⟨w.heap.size, 0, none⟩ = some (.int .i64 a) ∧ w'.cell? ⟨w.heap.size, 1, none⟩ = some (.int .i64 b) ∧ w.heap.size < w'.heap.size ∧ Below w.heap.size w w') (first | exact ⟨hc0, hc1, hlt, hbw.drew⟩ | exact box_keep (by assumption) hbl | assumption) (first | (go_at_call 16; refine (right_no _ _ _ HO.out).mono ?_; rintro e w2 ⟨rfl, hbl⟩) | (go_at_call 17; refine (rright_no _ _ _ HO.out).mono ?_; rintro e w2 ⟨rfl, rfl⟩))
  all_goals
    obtain ⟨hd0, hd1, hlt2, hbw2⟩ := box_all (by assumption)
    clear hc0 hc1 hlt hbw
    go_wp2_with fail
    refine (right_no _ _ _ HO.out).mono ?_
    rintro e w3 ⟨rfl, hb⟩
    obtain ⟨hf0, hf1, hlt3, hbw3⟩ := box_keep ⟨hd0, hd1, hlt2, hbw2⟩ hb
    clear hb hd0 hd1 hlt2 hbw2
    go_wp2_with fail
    refine (put_no m 0 _ _ _ HO.out).mono ?_
    rintro e w4 ⟨rfl, hb⟩
    obtain ⟨hd0, hd1, hlt2, hbw2⟩ := box_keep ⟨hf0, hf1, hlt3, hbw3⟩ hb
    clear hb hf0 hf1 hlt3 hbw3
    go_wp2_with fail
    refine (get_no _ _ _ _ HO.out).mono ?_
    rintro e w5 ⟨rfl, hb⟩
    obtain ⟨hf0, hf1, hlt3, hbw3⟩ := box_keep ⟨hd0, hd1, hlt2, hbw2⟩ hb
    clear hb hd0 hd1 hlt2 hbw2
    go_wp2_with fail
    refine (signed_no _ _ _ _ HO.out).mono ?_
    rintro e w6 ⟨rfl, hb⟩
    obtain ⟨hd0, hd1, hlt2, hbw2⟩ := box_keep ⟨hf0, hf1, hlt3, hbw3⟩ hb
    clear hb hf0 hf1 hlt3 hbw3
    go_wp2_with fail
    go_ret
    exact ⟨rfl, hbw2⟩

theorem fields_walk (m : Nat) (a b : Int) (w : World) (hm : m < 18446744073709551616) (hR : RefAt w) :
    Calls Tryd.prog 3 #[.int .u64 m, .agg #[.int .i64 a, .int .i64 b]] w fun e w' => e = .returned (.bool true) ∧ Below w.heap.size w w' := by
  by_cases h : okF a b
  · obtain ⟨x, y, rfl, rfl⟩ := okF_nat h
    exact fields_yes m x y w hm h hR
  · exact fields_no m a b w h hR

end Go.Proofs.YtjddbbkmaifcpaaDoor
