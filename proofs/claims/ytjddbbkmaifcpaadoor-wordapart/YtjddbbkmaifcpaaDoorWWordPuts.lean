/-
  The walk of the statement WordPuts: any number put into any field is the document's word, or doesn't fit.
-/
import Derived.Test.YtjddbbkmaifcpaaDoorWord4
import Derived.Test.YtjddbbkmaifcpaaDoorRefW
namespace Go.Proofs.YtjddbbkmaifcpaaDoor
open Go.RowKit

set_option maxHeartbeats 1000000 in
theorem puts_no (m n : Nat) (a b : Int) (w : World) (h : ¬ okF a b) (hR : Hid (RefAt w)) :
    Calls Tryd.prog 4 #[.int .u64 m, .int .u64 n, .agg #[.int .i64 a, .int .i64 b]] w fun e w' => e = .returned (.bool true) ∧ Below w.heap.size w w' := by
  have HO := Lib.hid h
  have hRb : Hid (RefAt (w.alloc (.cells #[.int .i64 a, .int .i64 b] 24))) := hR.out.next (belowBox _ _)
  clear h
  go_enter Tryd.func4, Tryd.ntmps4
  go_wp2_with fail
  refine (speaks1 _ hRb).mono ?_
  rintro e w1 ⟨rfl, hb⟩
  obtain ⟨hc0, hc1, hlt, hbw⟩ := box_cells (by simpa using hb)
  clear hb
  go_wp2_with fail
  refine (put_no _ _ _ _ _ HO.out).mono ?_
  rintro e w2 ⟨rfl, hb⟩
  obtain ⟨hd0, hd1, hlt2, hbw2⟩ := box_keep ⟨hc0, hc1, hlt, hbw⟩ hb
  clear hb hc0 hc1 hlt hbw
  go_wp2_with fail
  refine (rright_no _ _ _ HO.out).mono ?_
  rintro e w' ⟨rfl, rfl⟩
  go_wp2_with fail
  go_ret
  exact ⟨rfl, hbw2⟩

set_option maxHeartbeats 1000000 in
theorem puts_fit (m n a b : Nat) (w : World) (hm : m < 18446744073709551616) (hn64 : n < 18446744073709551616) (h : okF a b) (hn : n < 2 ^ b) (hR : Hid (RefAt w)) :
    Calls Tryd.prog 4 #[.int .u64 m, .int .u64 n, .agg #[.int .i64 a, .int .i64 b]] w fun e w' => e = .returned (.bool true) ∧ Below w.heap.size w w' := by
  have hab : a + b ≤ 64 := by unfold okF at h; omega
  have HO := Lib.hid h
  have HN := Lib.hid hn
  have hRb : Hid (RefAt (w.alloc (.cells #[.int .i64 (a : Int), .int .i64 (b : Int)] 24))) := hR.out.next (belowBox _ _)
  clear h hn
  go_enter Tryd.func4, Tryd.ntmps4
  go_wp2_with fail
  refine (speaks1 _ hRb).mono ?_
  rintro e w1 ⟨rfl, hb⟩
  obtain ⟨hc0, hc1, hlt, hbw⟩ := box_cells (by simpa using hb)
  clear hb
  go_wp2_with fail
  refine (put_yes _ _ _ _ _ hm HO.out HN.out).mono ?_
  rintro e w2 ⟨rfl, hb⟩
  obtain ⟨hd0, hd1, hlt2, hbw2⟩ := box_keep ⟨hc0, hc1, hlt, hbw⟩ hb
  clear hb hc0 hc1 hlt hbw
  go_wp2_with fail
  refine (rright_yes _ _ _ HO.out).mono ?_
  rintro e w' ⟨rfl, rfl⟩
  go_wp2_with fail
  refine (rput_any _ _ _ _ _ hm hn64 hab).mono ?_
  rintro e w' ⟨he, _, rfl⟩
  rw [he HN.out]
  clear he
  go_wp2_with fail
  go_ret
  exact ⟨rfl, hbw2⟩

set_option maxHeartbeats 1000000 in
theorem puts_big (m n a b : Nat) (w : World) (hm : m < 18446744073709551616) (hn64 : n < 18446744073709551616) (h : okF a b) (hn : ¬ n < 2 ^ b) (hR : Hid (RefAt w)) :
    Calls Tryd.prog 4 #[.int .u64 m, .int .u64 n, .agg #[.int .i64 a, .int .i64 b]] w fun e w' => e = .returned (.bool true) ∧ Below w.heap.size w w' := by
  have hab : a + b ≤ 64 := by unfold okF at h; omega
  have HO := Lib.hid h
  have HN := Lib.hid hn
  have HL : Hid (Ma.lowN b < n) := Nat.lt_of_not_le fun h => hn ((Ma.fits_iff n b).1 h)
  have hRb : Hid (RefAt (w.alloc (.cells #[.int .i64 (a : Int), .int .i64 (b : Int)] 24))) := hR.out.next (belowBox _ _)
  clear h hn
  go_enter Tryd.func4, Tryd.ntmps4
  go_wp2_with fail
  refine (speaks1 _ hRb).mono ?_
  rintro e w1 ⟨rfl, hb⟩
  obtain ⟨hc0, hc1, hlt, hbw⟩ := box_cells (by simpa using hb)
  clear hb
  go_wp2_with fail
  refine (put_big _ _ _ _ _ HO.out HL.out).mono ?_
  rintro e w2 ⟨rfl, hb⟩
  obtain ⟨hd0, hd1, hlt2, hbw2⟩ := box_keep ⟨hc0, hc1, hlt, hbw⟩ hb
  clear hb hc0 hc1 hlt hbw
  go_wp2_with fail
  refine (rright_yes _ _ _ HO.out).mono ?_
  rintro e w' ⟨rfl, rfl⟩
  go_wp2_with fail
  refine (rput_any _ _ _ _ _ hm hn64 hab).mono ?_
  rintro e w' ⟨_, he, rfl⟩
  rw [he HN.out]
  clear he
  go_wp2_with fail
  go_ret
  exact ⟨rfl, hbw2⟩

theorem okF_nat {a b : Int} (h : okF a b) : ∃ x y : Nat, a = x ∧ b = y := by
  unfold okF at h
  exact ⟨a.toNat, b.toNat, by omega, by omega⟩

theorem puts_walk (m n : Nat) (a b : Int) (w : World) (hm : m < 18446744073709551616) (hn : n < 18446744073709551616) (hR : RefAt w) :
    Calls Tryd.prog 4 #[.int .u64 m, .int .u64 n, .agg #[.int .i64 a, .int .i64 b]] w fun e w' => e = .returned (.bool true) ∧ Below w.heap.size w w' := by
  by_cases h : okF a b
  · obtain ⟨x, y, rfl, rfl⟩ := okF_nat h
    by_cases hf : n < 2 ^ y
    · exact puts_fit m n x y w hm hn h hf hR
    · exact puts_big m n x y w hm hn h hf hR
  · exact puts_no m n a b w h hR

end Go.Proofs.YtjddbbkmaifcpaaDoor
