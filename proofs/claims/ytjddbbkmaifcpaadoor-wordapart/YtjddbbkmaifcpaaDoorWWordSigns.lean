/-
  The walk of the statement WordSigns: a field with its highest bit below nought is what it is else, or as much less as the field has numbers.
-/
import Derived.Test.YtjddbbkmaifcpaaDoorWWordFields
namespace Go.Proofs.YtjddbbkmaifcpaaDoor
open Go.RowKit

set_option maxHeartbeats 1000000 in
theorem signs_no (m : Nat) (a b : Int) (w : World) (h : ¬ okF a b) (hR : Hid (RefAt w)) :
    Calls Tryd.prog 8 #[.int .u64 m, .agg #[.int .i64 a, .int .i64 b]] w fun e w' => e = .returned (.bool true) ∧ Below w.heap.size w w' := by
  have HO := Lib.hid h
  have hRb : Hid (RefAt (w.alloc (.cells #[.int .i64 a, .int .i64 b] 24))) := hR.out.next (belowBox _ _)
  clear h
  go_enter Tryd.func8, Tryd.ntmps8
  go_wp2_with fail
  refine (speaks1 _ hRb).mono ?_
  rintro e w1 ⟨rfl, hb⟩
  obtain ⟨hc0, hc1, hlt, hbw⟩ := box_cells (by simpa using hb)
  clear hb
  go_wp2_with fail
  refine (rright_no _ _ _ HO.out).mono ?_
  rintro e w' ⟨rfl, rfl⟩
  go_wp2_with fail
  go_ret
  exact ⟨rfl, hbw⟩

theorem sign64 (m a : Nat) : IntKind.u64.wrap (Ma.signN m a 64) = ((Ma.getN m a 64 : Nat) : Int) := by
  have hg : Ma.getN m a 64 < 18446744073709551616 := Ma.getN_lt_pow m a 64
  have hp : (((2 : Nat) ^ 64 : Nat) : Int) = 18446744073709551616 := rfl
  unfold Ma.signN
  rw [IntKind.wrap_u64, hp]
  generalize Ma.getN m a 64 = g at *
  split <;> omega
theorem sign_big {b g : Nat} {sg : Int} (hb : b ≤ 63) (hg : g < 2 ^ b) (hs : sg = (g : Int) - ((2 ^ b : Nat) : Int)) : wrap64 (wrap64 (g : Int) - wrap64 (2 ^ b)) = sg := by
  have h1 : 2 ^ b ≤ 2 ^ 63 := Nat.pow_le_pow_right (by decide) hb
  have h2 : (2 : Nat) ^ 63 = 9223372036854775808 := rfl
  have h3 : ((2 : Int) ^ b) = ((2 ^ b : Nat) : Int) := by rw [Int.natCast_pow]; rfl
  rw [h3, hs]
  unfold wrap64
  generalize 2 ^ b = q at *
  omega

set_option maxHeartbeats 2000000 in
theorem signs_yes (m a b : Nat) (w : World) (hm : m < 18446744073709551616) (h : okF a b) (hR : Hid (RefAt w)) :
    Calls Tryd.prog 8 #[.int .u64 m, .agg #[.int .i64 a, .int .i64 b]] w fun e w' => e = .returned (.bool true) ∧ Below w.heap.size w w' := by
  have hab : a + b ≤ 64 := by unfold okF at h; omega
  have hb1 : 1 ≤ b := by unfold okF at h; omega
  have HO := Lib.hid h
  have hRb : Hid (RefAt (w.alloc (.cells #[.int .i64 (a : Int), .int .i64 (b : Int)] 24))) := hR.out.next (belowBox _ _)
  clear h
  go_enter Tryd.func8, Tryd.ntmps8
  go_wp2_with fail
  refine (speaks1 _ hRb).mono ?_
  rintro e w1 ⟨rfl, hb⟩
  obtain ⟨hc0, hc1, hlt, hbw⟩ := box_cells (by simpa using hb)
  clear hb
  go_wp2_with fail
  refine (rright_yes _ _ _ HO.out).mono ?_
  rintro e w' ⟨rfl, rfl⟩
  go_wp2_with fail
  go_region_held3 (fun w' => w'.cell? ⟨w.heap.size, 0, none⟩ = some (.int .i64 (a : Int)) ∧ w'.cell? ⟨w.heap.size, 1, none⟩ = some (.int .i64 (b : Int)) ∧ w.heap.size < w'.heap.size ∧ Below w.heap.size w w') (first | exact ⟨hc0, hc1, hlt, hbw.drew⟩ | exact box_keep (by assumption) hbl | assumption) (first | (go_at_call 19; refine (get_yes _ _ _ _ hm HO.out).mono ?_; rintro e w4 ⟨rfl, hbl⟩) | (go_at_call 20; refine (signed_yes _ _ _ _ HO.out).mono ?_; rintro e w4 ⟨rfl, hbl⟩))
  all_goals
    obtain ⟨hd0, hd1, hlt2, hbw2⟩ := box_all (by assumption)
    clear hc0 hc1 hlt hbw
    by_cases h64 : b = 64
    · have HS := Lib.hid (sign64 m a)
      have q : ((b : Int) == 64) = true := by simp; omega
      have H64 := Lib.hid h64
      clear h64
      go_wp2_with fail
      go_ret
      obtain rfl := H64.out
      exact ⟨wret_bool (by rw [HS.out]; simp), hbw2⟩
    · have q : ((b : Int) == 64) = false := by simp; omega
      have q1 : (0 : Int) ≤ (b : Int) - 1 := by omega
      have q2 : (b : Int) - 1 ≤ 64 := by omega
      have q3 : ((b : Int) - 1).toNat = b - 1 := by omega
      have q4 : (b : Int) ≤ 64 := by omega
      have r2 := Ma.one_shl (b - 1) (by omega)
      have HG := Lib.hid (Ma.getN_lt_pow m a b)
      have HS : Hid (Ma.signN m a b = if 2 ^ (b - 1) ≤ Ma.getN m a b then (Ma.getN m a b : Int) - ((2 ^ b : Nat) : Int) else (Ma.getN m a b : Int)) := rfl
      have HP : Hid (2 ^ b = 2 ^ (b - 1) * 2) := by show 2 ^ b = _; rw [← Nat.pow_succ, show (b - 1).succ = b from by omega]
      have HQ := Lib.hid (Ma.pow_le (show b ≤ 64 by omega))
      generalize Ma.signN m a b = sg at *
      generalize Ma.getN m a b = g at *
      generalize hP : 2 ^ (b - 1) = P at *
      have HPP := Lib.hid hP
      clear hP
      by_cases hh : P ≤ g
      · have r1 : (P : Int) ≤ (g : Int) := by omega
        have s1 : sg < 0 := by have := HS.out; rw [if_pos hh] at this; have := HG.out; omega
        have hsg : sg = (g : Int) - ((2 ^ b : Nat) : Int) := by have := HS.out; rw [if_pos hh] at this; exact this
        have HE := Lib.hid (sign_big (by omega) HG.out hsg)
        clear hsg
        go_wp2_with fail
        go_ret
        exact ⟨wret_bool (by rw [HE.out]; simp), hbw2⟩
      · have r1 : ¬ (P : Int) ≤ (g : Int) := by omega
        have s1 : sg = g := by have := HS.out; rw [if_neg hh] at this; exact this
        have HE : Hid (wrap64 (g : Int) = (g : Int)) := by
          show wrap64 (g : Int) = (g : Int)
          have h1 := HP.out
          have h2 := HQ.out
          exact IntWalk.wrap64_in _ (by omega)
        go_wp2_with fail
        go_ret
        exact ⟨wret_bool (by rw [HE.out]; simp), hbw2⟩

theorem signs_walk (m : Nat) (a b : Int) (w : World) (hm : m < 18446744073709551616) (hR : RefAt w) :
    Calls Tryd.prog 8 #[.int .u64 m, .agg #[.int .i64 a, .int .i64 b]] w fun e w' => e = .returned (.bool true) ∧ Below w.heap.size w w' := by
  by_cases h : okF a b
  · obtain ⟨x, y, rfl, rfl⟩ := okF_nat h
    exact signs_yes m x y w hm h hR
  · exact signs_no m a b w h hR

end Go.Proofs.YtjddbbkmaifcpaaDoor
