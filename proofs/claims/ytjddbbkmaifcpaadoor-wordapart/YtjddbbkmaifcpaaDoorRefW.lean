/-
  Contracts of the document's own answers of layer 1: Right, Get, Put, Signed.
-/
import Derived.Test.YtjddbbkmaifcpaaDoorWord1
import Derived.Test.YtjddbbkmaifcpaaDoorRef1
namespace Go.Proofs.YtjddbbkmaifcpaaDoor
open Go.RowKit

set_option maxHeartbeats 400000 in
theorem rright_yes (a b : Int) (w : World) (h : okF a b) :
    Calls Tryd.prog 17 #[.int .i64 a, .int .i64 b] w fun e w' => e = .returned (.bool true) ∧ w = w' := by
  obtain ⟨h1, h2, h3, h4⟩ := h
  have h5 : b ≤ 64 := by omega
  go_enter Tryd.func17, Tryd.ntmps17
  go_wp2
  go_ret
  exact ⟨rfl, rfl⟩

set_option maxHeartbeats 400000 in
theorem rright_no (a b : Int) (w : World) (h : ¬ okF a b) :
    Calls Tryd.prog 17 #[.int .i64 a, .int .i64 b] w fun e w' => e = .returned (.bool false) ∧ w = w' := by
  unfold okF at h
  by_cases h1 : 0 ≤ a
  · by_cases h2 : a ≤ 63
    · by_cases h3 : 1 ≤ b
      · by_cases h4 : b ≤ 64
        · have h5 : ¬ a + b ≤ 64 := by omega
          clear h
          go_enter Tryd.func17, Tryd.ntmps17
          go_wp2
          go_ret
          exact ⟨rfl, rfl⟩
        · have h4' : decide (b ≤ 64) = false := by simpa using h4
          clear h
          go_enter Tryd.func17, Tryd.ntmps17
          go_wp2
          go_ret
          exact ⟨rfl, rfl⟩
      · have h3' : decide (1 ≤ b) = false := by simpa using h3
        clear h
        go_enter Tryd.func17, Tryd.ntmps17
        go_wp2
        go_ret
        exact ⟨rfl, rfl⟩
    · have h2' : decide (a ≤ 63) = false := by simpa using h2
      clear h
      go_enter Tryd.func17, Tryd.ntmps17
      go_wp2
      go_ret
      exact ⟨rfl, rfl⟩
  · have h1' : decide (0 ≤ a) = false := by simpa using h1
    clear h
    go_enter Tryd.func17, Tryd.ntmps17
    go_wp2
    go_ret
    exact ⟨rfl, rfl⟩

theorem bit_is (x i : Nat) (b : Bool) (w : World) (hx : x < 18446744073709551616) (hi : i < 128) (hb : x.testBit i = b) :
    Calls Tryd.prog 43 #[.int .u64 x, .int .i64 i] w fun e w' => e = .returned (.bool b) ∧ w = w' := by
  have := bit_any x i w hx (by omega) (by omega)
  rw [Int.toNat_natCast, hb] at this
  exact this
theorem bit_sum (x a i : Nat) (b : Bool) (w : World) (hx : x < 18446744073709551616) (hi : a + i < 128) (hb : x.testBit (a + i) = b) :
    Calls Tryd.prog 43 #[.int .u64 x, .int .i64 ((a : Int) + (i : Int))] w fun e w' => e = .returned (.bool b) ∧ w = w' := by
  have := bit_is x (a + i) b w hx hi hb
  rw [show ((a + i : Nat) : Int) = (a : Int) + (i : Int) from by omega] at this
  exact this
theorem power_nat (i : Nat) (w : World) (hi : i < 64) :
    Calls Tryd.prog 44 #[.int .i64 i] w fun e w' => e = .returned (.int .u64 (2 ^ i : Nat)) ∧ w = w' := power_any i w (by omega) (by omega)

set_option maxHeartbeats 1000000 in
theorem rget_any (m a b : Nat) (w : World) (hm : m < 18446744073709551616) (hab : a + b ≤ 64) :
    Calls Tryd.prog 21 #[.int .u64 m, .int .i64 a, .int .i64 b] w fun e w' => e = .returned (.int .u64 (Ma.getN m a b : Nat)) ∧ w = w' := by
  go_enter Tryd.func21, Tryd.ntmps21
  go_wp2_with fail
  go_loop [7, 8] (fun r t => ∃ k : Nat, k ≤ b ∧ t = .int .i64 k ∧ r = .int .u64 (Ma.getN m a k : Nat)) (fun _ t => b - (intOf t).toNat)
  case atStart => exact ⟨0, Nat.zero_le _, rfl, by rw [show Ma.getN m a 0 = 0 from Nat.and_zero _]; rfl⟩
  case round =>
    obtain ⟨k, hk, rfl, rfl⟩ := hrel
    have hl := Ma.getN_lt a k hm
    have HS := Lib.hid (Ma.getN_step m a k)
    have HA := Lib.hid (fun h : k < 64 => Ma.add_key (Ma.getN m a k) k hl h (Ma.getN_bit m a k))
    generalize hy : Ma.getN m a k = y at *
    have HY := Lib.hid hy
    clear hy
    by_cases hlt : k < b
    · have HA2 := Lib.hid (HA.out (by omega))
      rcases hb : m.testBit (a + k) with _ | _
      · have HB := Lib.hid hb
        rw [hb] at HS
        clear hb
        go_wp2_with fail
        refine (bit_sum _ _ _ _ _ hm (by omega) HB.out).mono ?_
        rintro e w' ⟨rfl, rfl⟩
        go_wp2_with fail
        go_round
        case rel => exact ⟨k + 1, by omega, by go_num, by rw [HS.out]; rfl⟩
        case measure => simp [intOf]; omega
      · have HB := Lib.hid hb
        rw [hb] at HS
        clear hb
        go_wp2_with fail
        refine (bit_sum _ _ _ _ _ hm (by omega) HB.out).mono ?_
        rintro e w' ⟨rfl, rfl⟩
        go_wp2_with fail
        refine (power_nat _ _ (by omega)).mono ?_
        rintro e w' ⟨rfl, rfl⟩
        generalize hpq : 2 ^ k = q at *
        have HQ := Lib.hid hpq
        clear hpq
        go_wp2_with fail
        go_round
        case rel => exact ⟨k + 1, by omega, by go_num, by rw [HS.out, if_pos trivial, ← HA2.out]⟩
        case measure => simp [intOf]; omega
    · obtain rfl : k = b := by omega
      go_wp2_with fail
      go_ret
      exact ⟨wret_int (by rw [HY.out]), rfl⟩

theorem top_bit (g b : Nat) (hb : 1 ≤ b) (hg : g < 2 ^ b) : g.testBit (b - 1) = decide (2 ^ (b - 1) ≤ g) := by
  obtain ⟨c, rfl⟩ : ∃ c, b = c + 1 := ⟨b - 1, by omega⟩
  rw [show c + 1 - 1 = c from rfl, Bool.eq_iff_iff, decide_eq_true_eq]
  constructor
  · intro h
    exact Nat.ge_two_pow_of_testBit h
  · intro h
    exact Nat.testBit_of_two_pow_le_and_two_pow_add_one_gt h hg

theorem bit_pred (x b : Nat) (v : Bool) (w : World) (hx : x < 18446744073709551616) (hb : 1 ≤ b) (hb2 : b ≤ 64) (hv : x.testBit (b - 1) = v) :
    Calls Tryd.prog 43 #[.int .u64 x, .int .i64 ((b : Int) - 1)] w fun e w' => e = .returned (.bool v) ∧ w = w' := by
  have := bit_is x (b - 1) v w hx (by omega) hv
  rw [show ((b - 1 : Nat) : Int) = (b : Int) - 1 from by omega] at this
  exact this

/-- A field's number with all bits from b to below k set. -/
def fillTo (g b k : Nat) : Nat := g + (2 ^ k - 2 ^ b)
theorem fillTo_lt {g b k : Nat} (hg : g < 2 ^ b) (hbk : b ≤ k) (hk : k ≤ 64) : fillTo g b k < 18446744073709551616 := by
  have h1 : 2 ^ b ≤ 2 ^ k := Nat.pow_le_pow_right (by decide) hbk
  have h2 := Ma.pow_le hk
  unfold fillTo; omega
theorem fillTo_step {g b k : Nat} (hg : g < 2 ^ b) (hbk : b ≤ k) (hk : k < 64) : IntKind.u64.wrap (((fillTo g b k : Nat) : Int) + ((2 ^ k : Nat) : Int)) = ((fillTo g b (k + 1) : Nat) : Int) := by
  have h := fillTo_lt hg (Nat.le_succ_of_le hbk) (by omega : k + 1 ≤ 64)
  have e : fillTo g b (k + 1) = fillTo g b k + 2 ^ k := by
    have h1 : 2 ^ b ≤ 2 ^ k := Nat.pow_le_pow_right (by decide) hbk
    have h2 : 2 ^ (k + 1) = 2 ^ k * 2 := Nat.pow_succ 2 k
    unfold fillTo; omega
  rw [e] at h ⊢
  exact Ma.wrap_add _ _ h
theorem fillTo_end {g b : Nat} (hg : g < 2 ^ b) (hb : b ≤ 64) (hb1 : 1 ≤ b) (ht : 2 ^ (b - 1) ≤ g) : wrap64 ((fillTo g b 64 : Nat) : Int) = (g : Int) - ((2 ^ b : Nat) : Int) := by
  have h1 : 2 ^ b ≤ 2 ^ 64 := Nat.pow_le_pow_right (by decide) hb
  have h2 : (2 : Nat) ^ 64 = 18446744073709551616 := rfl
  have p1 : 2 ^ b = 2 ^ (b - 1) * 2 := by rw [← Nat.pow_succ, show (b - 1).succ = b from by omega]
  unfold fillTo wrap64
  rw [h2]
  rw [p1] at hg h1 ⊢
  generalize 2 ^ (b - 1) = q at *
  omega

set_option maxHeartbeats 1000000 in
theorem rsigned_any (m a b : Nat) (w : World) (hm : m < 18446744073709551616) (hab : a + b ≤ 64) (hb1 : 1 ≤ b) :
    Calls Tryd.prog 22 #[.int .u64 m, .int .i64 a, .int .i64 b] w fun e w' => e = .returned (.int .i64 (Ma.signN m a b)) ∧ w = w' := by
  have hg := Ma.getN_lt_pow m a b
  have hg64 := Ma.getN_lt a b hm
  have HT := Lib.hid (top_bit _ b hb1 hg)
  have HS : Hid (Ma.signN m a b = if 2 ^ (b - 1) ≤ Ma.getN m a b then (Ma.getN m a b : Int) - ((2 ^ b : Nat) : Int) else (Ma.getN m a b : Int)) := rfl
  have HE := Lib.hid (fun h => fillTo_end hg (by omega) hb1 h)
  have HP : Hid (2 ^ (b - 1) ≤ 9223372036854775808) := by
    show 2 ^ (b - 1) ≤ 9223372036854775808
    have : 2 ^ (b - 1) ≤ 2 ^ 63 := Nat.pow_le_pow_right (by decide) (by omega)
    exact this
  have HG := Lib.hid hg
  clear hg
  go_enter Tryd.func22, Tryd.ntmps22
  go_wp2_with fail
  refine (rget_any _ _ _ _ hm hab).mono ?_
  rintro e w' ⟨rfl, rfl⟩
  generalize hy : Ma.getN m a b = g at *
  have HY := Lib.hid hy
  clear hy
  by_cases ht : 2 ^ (b - 1) ≤ g
  · have HB : Hid (g.testBit (b - 1) = true) := by show g.testBit (b - 1) = true; rw [HT.out]; simpa using ht
    have HE2 := Lib.hid (HE.out ht)
    have HS2 : Hid (Ma.signN m a b = (g : Int) - ((2 ^ b : Nat) : Int)) := by show Ma.signN m a b = _; rw [HS.out, if_pos ht]
    clear ht
    go_wp2_with fail
    refine (bit_pred _ _ _ _ hg64 hb1 (by omega) HB.out).mono ?_
    rintro e w' ⟨rfl, rfl⟩
    go_wp2_with fail
    go_loop [7, 8] (fun r t => ∃ k : Nat, b ≤ k ∧ k ≤ 64 ∧ t = .int .i64 k ∧ r = .int .u64 (fillTo g b k : Nat)) (fun _ t => 64 - (intOf t).toNat)
    case atStart => exact ⟨b, Nat.le_refl _, by omega, rfl, by rw [show fillTo g b b = g from by unfold fillTo; omega]⟩
    case round =>
      obtain ⟨k, hk1, hk2, rfl, rfl⟩ := hrel
      have hl := fillTo_lt HG.out hk1 hk2
      by_cases hlt : k < 64
      · have HF := Lib.hid (fillTo_step HG.out hk1 hlt)
        generalize hz : fillTo g b k = y at *
        have HZ := Lib.hid hz
        clear hz
        go_wp2_with fail
        refine (power_nat _ _ hlt).mono ?_
        rintro e w' ⟨rfl, rfl⟩
        generalize hpq : 2 ^ k = q at *
        have HQ := Lib.hid hpq
        clear hpq
        go_wp2_with fail
        go_round
        case rel => exact ⟨k + 1, by omega, by omega, by go_num, by rw [← HF.out]⟩
        case measure => simp [intOf]; omega
      · obtain rfl : k = 64 := by omega
        generalize hz : fillTo g b 64 = y at *
        have HZ := Lib.hid hz
        clear hz
        go_wp2_with fail
        go_ret
        exact ⟨wret_int (by rw [HE2.out, HS2.out]), rfl⟩
  · have HB : Hid (g.testBit (b - 1) = false) := by show g.testBit (b - 1) = false; rw [HT.out]; simpa using ht
    have hs : (g : Int) ≤ 9223372036854775807 := by have := HP.out; omega
    have HS2 : Hid (Ma.signN m a b = (g : Int)) := by show Ma.signN m a b = _; rw [HS.out, if_neg ht]
    clear ht
    go_wp2_with fail
    refine (bit_pred _ _ _ _ hg64 hb1 (by omega) HB.out).mono ?_
    rintro e w' ⟨rfl, rfl⟩
    go_wp2_with fail
    go_ret
    exact ⟨wret_int (by rw [HS2.out]), rfl⟩

/-! ### Put -/
def selB (m n a b i : Nat) : Bool := if a ≤ i ∧ i < a + b then n.testBit (i - a) else m.testBit i
def selTo (m n a b : Nat) : Nat → Nat
  | 0 => 0
  | k + 1 => if selB m n a b k then selTo m n a b k + 2 ^ k else selTo m n a b k
theorem selTo_lt (m n a b : Nat) : ∀ k, selTo m n a b k < 2 ^ k
  | 0 => by simp [selTo]
  | k + 1 => by
    have := selTo_lt m n a b k
    have h2 : 2 ^ (k + 1) = 2 ^ k * 2 := Nat.pow_succ 2 k
    simp only [selTo]; split <;> omega
theorem testBit_selTo (m n a b : Nat) : ∀ k i, (selTo m n a b k).testBit i = (decide (i < k) && selB m n a b i)
  | 0, i => by simp [selTo]
  | k + 1, i => by
    have hlt := selTo_lt m n a b k
    have ih := testBit_selTo m n a b k i
    have hk : (selTo m n a b k).testBit k = false := Ma.bit_of_lt hlt (Nat.le_refl _)
    simp only [selTo]
    split
    · rename_i h
      rw [← Ma.withN_add hk, Ma.testBit_withN, ih]
      by_cases e : k = i
      · subst e; simp [h]
      · simp only [e, decide_false, Bool.or_false]
        congr 1
        rw [decide_eq_decide]; omega
    · rename_i h
      rw [ih]
      by_cases e : k = i
      · subst e; simp at h; simp [h]
      · congr 1
        rw [decide_eq_decide]; omega
theorem selTo_64 (m n a b : Nat) (hm : m < 18446744073709551616) (hn : n < 2 ^ b) (hab : a + b ≤ 64) : selTo m n a b 64 = Ma.putN m n a b := by
  refine Ma.word_ext (selTo_lt m n a b 64) (Ma.putN_lt hm hn hab) fun i hi => ?_
  rw [testBit_selTo, Ma.testBit_putN hm hn hab]
  simp [hi, selB]
theorem selTo_lt64 (m n a b k : Nat) (hk : k ≤ 64) : selTo m n a b k < 18446744073709551616 := Nat.lt_of_lt_of_le (selTo_lt m n a b k) (Ma.pow_le hk)
theorem sel_key (m n a b k : Nat) (hk : k < 64) (h : selB m n a b k = true) : IntKind.u64.wrap (((selTo m n a b k : Nat) : Int) + ((2 ^ k : Nat) : Int)) = ((selTo m n a b (k + 1) : Nat) : Int) := by
  have h2 := selTo_lt64 m n a b (k + 1) (by omega)
  simp only [selTo, h, if_true] at h2 ⊢
  exact Ma.wrap_add _ _ h2
theorem sel_skip (m n a b k : Nat) (h : selB m n a b k = false) : selTo m n a b (k + 1) = selTo m n a b k := by
  simp [selTo, h]

/-- What Put answers. -/
def PutSays (m n a b : Nat) (w : World) (e : Ending) (w' : World) : Prop :=
  (n < 2 ^ b → e = .returned (.tuple #[.int .u64 (Ma.putN m n a b : Nat), .bool true])) ∧ (¬ n < 2 ^ b → e = .returned (.tuple #[.int .u64 m, .bool false])) ∧ w = w'

theorem bit_diff (x k a : Nat) (v : Bool) (w : World) (hx : x < 18446744073709551616) (ha : a ≤ k) (hk : k < 64) (hv : x.testBit (k - a) = v) :
    Calls Tryd.prog 43 #[.int .u64 x, .int .i64 ((k : Int) - (a : Int))] w fun e w' => e = .returned (.bool v) ∧ w = w' := by
  have := bit_is x (k - a) v w hx (by omega) hv
  rw [show ((k - a : Nat) : Int) = (k : Int) - (a : Int) from by omega] at this
  exact this

theorem no_fit {n b i : Nat} (hi : b ≤ i) (h : n.testBit i = true) : ¬ n < 2 ^ b := fun hn => by rw [Ma.bit_of_lt hn hi] at h; cases h
theorem all_fit {n b : Nat} (hn : n < 18446744073709551616) (h : ∀ i, b ≤ i → i < 64 → n.testBit i = false) : n < 2 ^ b := by
  apply Nat.lt_pow_two_of_testBit
  intro i hi
  by_cases h64 : i < 64
  · exact h i hi h64
  · exact Ma.testBit_high hn (by omega)

set_option maxHeartbeats 4000000 in
theorem rput_any (m n a b : Nat) (w : World) (hm : m < 18446744073709551616) (hn : n < 18446744073709551616) (hab : a + b ≤ 64) :
    Calls Tryd.prog 23 #[.int .u64 m, .int .u64 n, .int .i64 a, .int .i64 b] w (PutSays m n a b w) := by
  go_enter Tryd.func23, Tryd.ntmps23
  go_wp2_with fail
  go_loop [10, 11] (fun r t => ∃ k : Nat, k ≤ 64 ∧ t = .int .i64 k ∧ r = .int .u64 (selTo m n a b k : Nat)) (fun _ t => 64 - (intOf t).toNat)
  case atStart => exact ⟨0, Nat.zero_le _, rfl, rfl⟩
  case round =>
    obtain ⟨k, hk, rfl, rfl⟩ := hrel
    have hl := selTo_lt64 m n a b k hk
    by_cases hlt : k < 64
    · have HK := Lib.hid (sel_key m n a b k hlt)
      have HN := Lib.hid (sel_skip m n a b k)
      generalize hz : selTo m n a b k = y at *
      have HZ := Lib.hid hz
      clear hz
      by_cases hin : a ≤ k ∧ k < a + b
      · obtain ⟨i1, i2⟩ := hin
        have i3 : (a : Int) ≤ (k : Int) := by omega
        have i4 : (k : Int) < (a : Int) + (b : Int) := by omega
        have HSB : Hid (selB m n a b k = n.testBit (k - a)) := if_pos ⟨i1, i2⟩
        rcases hb : n.testBit (k - a) with _ | _
        · have HB := Lib.hid hb
          have HN2 := Lib.hid (HN.out (by rw [HSB.out, hb]))
          clear hb
          go_wp2_with fail
          refine (bit_is _ _ _ _ hm (by omega) rfl).mono ?_
          rintro e w' ⟨rfl, rfl⟩
          generalize m.testBit k = mb
          go_wp2_with fail
          refine (bit_diff _ _ _ _ _ hn i1 hlt HB.out).mono ?_
          rintro e w' ⟨rfl, rfl⟩
          go_wp2_with fail
          go_round
          case rel => exact ⟨k + 1, by omega, by go_num, by rw [HN2.out]⟩
          case measure => simp [intOf]; omega
        · have HB := Lib.hid hb
          have HK2 := Lib.hid (HK.out (by rw [HSB.out, hb]))
          clear hb
          go_wp2_with fail
          refine (bit_is _ _ _ _ hm (by omega) rfl).mono ?_
          rintro e w' ⟨rfl, rfl⟩
          generalize m.testBit k = mb
          go_wp2_with fail
          refine (bit_diff _ _ _ _ _ hn i1 hlt HB.out).mono ?_
          rintro e w' ⟨rfl, rfl⟩
          go_wp2_with fail
          refine (power_nat _ _ hlt).mono ?_
          rintro e w' ⟨rfl, rfl⟩
          generalize hpq : 2 ^ k = q at *
          have HQ := Lib.hid hpq
          clear hpq
          go_wp2_with fail
          go_round
          case rel => exact ⟨k + 1, by omega, by go_num, by rw [← HK2.out]⟩
          case measure => simp [intOf]; omega
      · have HSB : Hid (selB m n a b k = m.testBit k) := if_neg hin
        have hcond : (¬ (a : Int) ≤ (k : Int) ∨ ((a : Int) ≤ (k : Int) ∧ ¬ (k : Int) < (a : Int) + (b : Int))) := by omega
        by_cases hbk : b ≤ k
        · have j1 : (b : Int) ≤ (k : Int) := by omega
          rcases hnb : n.testBit k with _ | _
          · rcases hmb : m.testBit k with _ | _
            · have HB := Lib.hid hnb
              have HM := Lib.hid hmb
              have HN2 := Lib.hid (HN.out (by rw [HSB.out, hmb]))
              clear hnb hmb hin
              rcases hcond with c1 | ⟨c1, c2⟩
              all_goals
                go_wp2_with fail
                refine (bit_is _ _ _ _ hm (by omega) HM.out).mono ?_
                rintro e w' ⟨rfl, rfl⟩
                go_wp2_with fail
                refine (bit_is _ _ _ _ hn (by omega) HB.out).mono ?_
                rintro e w' ⟨rfl, rfl⟩
                go_wp2_with fail
                go_round
                case rel => exact ⟨k + 1, by omega, by go_num, by rw [HN2.out]⟩
                case measure => simp [intOf]; omega
            · have HB := Lib.hid hnb
              have HM := Lib.hid hmb
              have HK2 := Lib.hid (HK.out (by rw [HSB.out, hmb]))
              clear hnb hmb hin
              rcases hcond with c1 | ⟨c1, c2⟩
              all_goals
                go_wp2_with fail
                refine (bit_is _ _ _ _ hm (by omega) HM.out).mono ?_
                rintro e w' ⟨rfl, rfl⟩
                go_wp2_with fail
                refine (bit_is _ _ _ _ hn (by omega) HB.out).mono ?_
                rintro e w' ⟨rfl, rfl⟩
                go_wp2_with fail
                refine (power_nat _ _ hlt).mono ?_
                rintro e w' ⟨rfl, rfl⟩
                generalize hpq : 2 ^ k = q at *
                have HQ := Lib.hid hpq
                clear hpq
                go_wp2_with fail
                go_round
                case rel => exact ⟨k + 1, by omega, by go_num, by rw [← HK2.out]⟩
                case measure => simp [intOf]; omega
          · have HB := Lib.hid hnb
            have HNF := Lib.hid (no_fit hbk hnb)
            clear hnb hin
            rcases hcond with c1 | ⟨c1, c2⟩
            all_goals
              go_wp2_with fail
              refine (bit_is _ _ _ _ hm (by omega) rfl).mono ?_
              rintro e w' ⟨rfl, rfl⟩
              generalize m.testBit k = mb
              go_wp2_with fail
              refine (bit_is _ _ _ _ hn (by omega) HB.out).mono ?_
              rintro e w' ⟨rfl, rfl⟩
              go_wp2_with fail
              go_ret2
              exact ⟨fun h => absurd h HNF.out, fun _ => rfl, rfl⟩
        · have j1 : decide ((b : Int) ≤ (k : Int)) = false := by simp; omega
          have c1 : ¬ (a : Int) ≤ (k : Int) := by omega
          clear hcond
          rcases hmb : m.testBit k with _ | _
          · have HM := Lib.hid hmb
            have HN2 := Lib.hid (HN.out (by rw [HSB.out, hmb]))
            clear hmb hin
            go_wp2_with fail
            refine (bit_is _ _ _ _ hm (by omega) HM.out).mono ?_
            rintro e w' ⟨rfl, rfl⟩
            go_wp2_with fail
            go_round
            case rel => exact ⟨k + 1, by omega, by go_num, by rw [HN2.out]⟩
            case measure => simp [intOf]; omega
          · have HM := Lib.hid hmb
            have HK2 := Lib.hid (HK.out (by rw [HSB.out, hmb]))
            clear hmb hin
            go_wp2_with fail
            refine (bit_is _ _ _ _ hm (by omega) HM.out).mono ?_
            rintro e w' ⟨rfl, rfl⟩
            go_wp2_with fail
            refine (power_nat _ _ hlt).mono ?_
            rintro e w' ⟨rfl, rfl⟩
            generalize hpq : 2 ^ k = q at *
            have HQ := Lib.hid hpq
            clear hpq
            go_wp2_with fail
            go_round
            case rel => exact ⟨k + 1, by omega, by go_num, by rw [← HK2.out]⟩
            case measure => simp [intOf]; omega
    · obtain rfl : k = 64 := by omega
      have HE := Lib.hid (fun h => selTo_64 m n a b hm h hab)
      generalize hz : selTo m n a b 64 = y at *
      have HZ := Lib.hid hz
      clear hz
      go_wp2_with fail
      go_loop [13] (fun t => ∃ i : Nat, b ≤ i ∧ i ≤ 64 ∧ t = .int .i64 i ∧ ∀ j, b ≤ j → j < i → n.testBit j = false) (fun t => 64 - (intOf t).toNat)
      case atStart => exact ⟨b, Nat.le_refl _, by omega, rfl, fun j h1 h2 => by omega⟩
      case round =>
        obtain ⟨i, hi1, hi2, rfl, hall⟩ := hrel
        have HALL := Lib.hid hall
        clear hall
        by_cases hlt2 : i < 64
        · rcases hnb : n.testBit i with _ | _
          · have HB := Lib.hid hnb
            clear hnb
            go_wp2_with fail
            refine (bit_is _ _ _ _ hn (by omega) HB.out).mono ?_
            rintro e w' ⟨rfl, rfl⟩
            go_wp2_with fail
            go_round
            case rel => exact ⟨i + 1, by omega, by omega, by go_num, fun j h1 h2 => by
              by_cases e : j = i
              · rw [e]; exact HB.out
              · exact HALL.out j h1 (by omega)⟩
            case measure => simp [intOf]; omega
          · have HB := Lib.hid hnb
            have HNF := Lib.hid (no_fit hi1 hnb)
            clear hnb
            go_wp2_with fail
            refine (bit_is _ _ _ _ hn (by omega) HB.out).mono ?_
            rintro e w' ⟨rfl, rfl⟩
            go_wp2_with fail
            go_ret2
            exact ⟨fun h => absurd h HNF.out, fun _ => rfl, rfl⟩
        · have HFit := Lib.hid (all_fit hn (fun j h1 h2 => HALL.out j h1 (by omega)))
          go_wp2_with fail
          go_ret2
          exact ⟨fun h => by rw [← HE.out h]; rfl, fun h => absurd HFit.out h, rfl⟩

end Go.Proofs.YtjddbbkmaifcpaaDoor
