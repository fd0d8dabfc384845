/-
  Plain arithmetic, of no program: the word of a reference, bit by bit.
-/
import Derived.Test.YtlpaijobcopbnaaDoorWord3
namespace Go.Proofs.YtlpaijobcopbnaaDoor
open Go

theorem u64_small {x : Int} (h0 : 0 ≤ x) (h1 : x < 18446744073709551616) : u64 x = x.toNat := by unfold u64; omega
theorem u64_neg {x : Int} (h0 : x < 0) (h1 : -9223372036854775808 ≤ x) : 9223372036854775808 ≤ u64 x := by unfold u64; omega
theorem u64_nat (n : Nat) (h : n < 18446744073709551616) : u64 (n : Int) = n := by unfold u64; omega

theorem mark_bit (i : Nat) : mark.testBit i = decide (63 = i) := by
  rw [show mark = 2 ^ 63 from rfl]; exact Ma.testBit_pow 63 i

/-- The word of three numbers that have room, bit by bit. -/
theorem acc3_bit (x y z : Int) (hx : u64 x < 2 ^ 8) (hy : u64 y < 2 ^ 8) (hz : u64 z < 2 ^ 32) (i : Nat) :
    (ofAcc x y z 3).testBit i = if i < 8 then (u64 x).testBit i else if i < 16 then (u64 y).testBit (i - 8) else if i < 48 then (u64 z).testBit (i - 16) else decide (63 = i) := by
  rw [acc3, Ma.testBit_putN (acc2_lt x y z hx hy) hz (by decide), acc2, Ma.testBit_putN (acc1_lt x y z hx) hy (by decide), acc1, Ma.testBit_putN (acc0_lt x y z) hx (by decide), acc0, mark_bit]
  by_cases h1 : i < 8
  · simp [h1, show ¬ 16 ≤ i by omega, show ¬ 8 ≤ i by omega]
  · by_cases h2 : i < 16
    · simp [h1, h2, show ¬ 16 ≤ i by omega, show 8 ≤ i by omega]
    · by_cases h3 : i < 48
      · simp [h1, h2, h3, show 16 ≤ i by omega]
      · simp [h1, h2, h3]

theorem acc3_lt (x y z : Int) (hx : u64 x < 2 ^ 8) (hy : u64 y < 2 ^ 8) (hz : u64 z < 2 ^ 32) : ofAcc x y z 3 < 18446744073709551616 := by
  rw [acc3]; exact Ma.putN_lt (acc2_lt x y z hx hy) hz (by decide)

theorem ofR_fit {x y z : Int} (hx : u64 x < 2 ^ 8) (hy : u64 y < 2 ^ 8) (hz : u64 z < 2 ^ 32) : ofR x y z = ofAcc x y z 3 := if_pos ⟨hx, hy, hz⟩
theorem ofR_lt (x y z : Int) : ofR x y z < 18446744073709551616 := by
  unfold ofR; split
  · rename_i h; exact acc3_lt x y z h.1 h.2.1 h.2.2
  · decide

theorem fit_x (m : Nat) : u64 (toX m) < 2 ^ 8 := by rw [u64_nat _ (by have := toX_lt m; omega)]; exact toX_lt m
theorem fit_y (m : Nat) : u64 (toY m) < 2 ^ 8 := by rw [u64_nat _ (by have := toY_lt m; omega)]; exact toY_lt m
theorem fit_z (m : Nat) : u64 (toZ m) < 2 ^ 32 := by rw [u64_nat _ (by have := toZ_lt m; omega)]; exact toZ_lt m

/-- The word of the three numbers of a word: its 48 lowest bits, and the mark. -/
theorem again_bit (m i : Nat) : (ofR (toX m) (toY m) (toZ m)).testBit i = if i < 48 then m.testBit i else decide (63 = i) := by
  rw [ofR_fit (fit_x m) (fit_y m) (fit_z m), acc3_bit _ _ _ (fit_x m) (fit_y m) (fit_z m)]
  rw [u64_nat _ (by have := toX_lt m; omega), u64_nat _ (by have := toY_lt m; omega), u64_nat _ (by have := toZ_lt m; omega)]
  unfold toX toY toZ
  rw [Ma.testBit_getN, Ma.testBit_getN, Ma.testBit_getN]
  by_cases h1 : i < 8
  · simp [h1, show i < 48 by omega]
  · by_cases h2 : i < 16
    · simp [h1, h2, show i < 48 by omega, show 8 + (i - 8) = i by omega, show i - 8 < 8 by omega]
    · by_cases h3 : i < 48
      · simp [h1, h2, h3, show 16 + (i - 16) = i by omega, show i - 16 < 32 by omega]
      · simp [h1, h2, h3]

/-- A word that is none of a reference's: the mark is missing, or a bit from 48 to 62 is set. -/
theorem none_of (m : Nat) (hm : m < 18446744073709551616) (h : ofR (toX m) (toY m) (toZ m) ≠ m) : m.testBit 63 = false ∨ ∃ i, i < 15 ∧ m.testBit (48 + i) = true := by
  rcases h63 : m.testBit 63 with _ | _
  · exact Or.inl rfl
  · right
    apply Classical.byContradiction
    intro hno
    apply h
    refine Ma.word_ext (ofR_lt _ _ _) hm fun i hi => ?_
    rw [again_bit]
    split
    · rfl
    · rename_i h48
      by_cases e : 63 = i
      · subst e; simp [h63]
      · simp only [e, decide_false]
        rcases hb : m.testBit i with _ | _
        · rfl
        · exfalso
          exact hno ⟨i - 48, by omega, by rw [show 48 + (i - 48) = i from by omega]; exact hb⟩

/-- There and back. -/
theorem to_of (x y z : Nat) (hx : x < 256) (hy : y < 256) (hz : z < 4294967296) : toX (ofR x y z) = x ∧ toY (ofR x y z) = y ∧ toZ (ofR x y z) = z := by
  have ux := u64_nat x (by omega)
  have uy := u64_nat y (by omega)
  have uz := u64_nat z (by omega)
  have fx : u64 (x : Int) < 2 ^ 8 := by rw [ux]; exact hx
  have fy : u64 (y : Int) < 2 ^ 8 := by rw [uy]; exact hy
  have fz : u64 (z : Int) < 2 ^ 32 := by rw [uz]; exact hz
  have key := acc3_bit x y z fx fy fz
  rw [ux, uy, uz] at key
  rw [ofR_fit fx fy fz]
  have q : ∀ (v a b : Nat), v < 2 ^ b → (∀ i, i < b → (ofAcc x y z 3).testBit (a + i) = v.testBit i) → Ma.getN (ofAcc x y z 3) a b = v := by
    intro v a b hv hb
    apply Nat.eq_of_testBit_eq
    intro i
    rw [Ma.testBit_getN]
    by_cases hi : i < b
    · rw [hb i hi]; simp [hi]
    · rw [Ma.bit_of_lt hv (by omega)]; simp [hi]
  refine ⟨q x 0 8 hx fun i hi => ?_, q y 8 8 hy fun i hi => ?_, q z 16 32 hz fun i hi => ?_⟩
  · rw [key]; simp [hi]
  · rw [key]; simp [show ¬ 8 + i < 8 by omega, show 8 + i < 16 by omega, show 8 + i - 8 = i by omega]
  · rw [key]; simp [show ¬ 16 + i < 8 by omega, show ¬ 16 + i < 16 by omega, show 16 + i < 48 by omega, show 16 + i - 16 = i by omega]

/-- The word as the statement writes it. -/
theorem or_word (x y z : Nat) (hx : x < 256) (hy : y < 256) (hz : z < 4294967296) :
    ((mark ||| z <<< 16) ||| y <<< 8) ||| x = ofR x y z := by
  have ux := u64_nat x (by omega)
  have uy := u64_nat y (by omega)
  have uz := u64_nat z (by omega)
  have fx : u64 (x : Int) < 2 ^ 8 := by rw [ux]; exact hx
  have fy : u64 (y : Int) < 2 ^ 8 := by rw [uy]; exact hy
  have fz : u64 (z : Int) < 2 ^ 32 := by rw [uz]; exact hz
  have key := acc3_bit x y z fx fy fz
  rw [ux, uy, uz] at key
  rw [ofR_fit fx fy fz]
  apply Nat.eq_of_testBit_eq
  intro i
  rw [key, Nat.testBit_or, Nat.testBit_or, Nat.testBit_or, Nat.testBit_shiftLeft, Nat.testBit_shiftLeft, mark_bit]
  have bx : 8 ≤ i → x.testBit i = false := fun h => Ma.bit_of_lt (b := 8) hx h
  have bY : 16 ≤ i → y.testBit (i - 8) = false := fun h => Ma.bit_of_lt (b := 8) hy (by omega)
  have bz : 48 ≤ i → z.testBit (i - 16) = false := fun h => Ma.bit_of_lt (b := 32) hz (by omega)
  by_cases h1 : i < 8
  · simp [h1, show ¬ 16 ≤ i by omega, show ¬ 8 ≤ i by omega, show ¬ 63 = i by omega]
  · by_cases h2 : i < 16
    · simp [h1, h2, show ¬ 16 ≤ i by omega, show 8 ≤ i by omega, show ¬ 63 = i by omega, bx (by omega)]
    · by_cases h3 : i < 48
      · simp [h1, h2, h3, show 16 ≤ i by omega, show 8 ≤ i by omega, show ¬ 63 = i by omega, bx (by omega), bY (by omega)]
      · simp [h1, h2, h3, bx (by omega), bY (by omega), bz (by omega)]

/-- The same in the program's own words. -/
theorem or_int (x y z : Nat) (hx : x < 256) (hy : y < 256) (hz : z < 4294967296) :
    bits BinOp.or IntKind.u64 (bits BinOp.or IntKind.u64 (bits BinOp.or IntKind.u64 ((mark : Nat) : Int) ((z : Int) * 65536)) ((y : Int) * 256)) (x : Int) = ((ofR x y z : Nat) : Int) := by
  have e1 : (z : Int) * (65536 : Int) = ((z <<< 16 : Nat) : Int) := by rw [Nat.shiftLeft_eq]; omega
  have e2 : (y : Int) * (256 : Int) = ((y <<< 8 : Nat) : Int) := by rw [Nat.shiftLeft_eq]; omega
  have l1 : z <<< 16 < 18446744073709551616 := by rw [Nat.shiftLeft_eq]; omega
  have l2 : y <<< 8 < 18446744073709551616 := by rw [Nat.shiftLeft_eq]; omega
  have l3 := Ma.or_lt mark_lt l1
  have l4 := Ma.or_lt l3 l2
  rw [e1, e2, u64_or_nat _ _ mark_lt l1, u64_or_nat _ _ l3 l2, u64_or_nat _ _ l4 (by omega), or_word x y z hx hy hz]

theorem no63 {m : Nat} (hm : m < 18446744073709551616) (h : m.testBit 63 = false) : bits BinOp.and IntKind.u64 (m : Int) ((mark : Nat) : Int) = 0 := by
  rw [u64_and_nat _ _ hm mark_lt]
  have : m &&& mark = 0 := by
    apply Nat.eq_of_testBit_eq
    intro i
    rw [Nat.testBit_and, mark_bit, Nat.zero_testBit]
    by_cases e : 63 = i
    · subst e; simp [h]
    · simp [e]
  rw [this]; rfl
theorem has63 {m : Nat} (hm : m < 18446744073709551616) (h : m.testBit 63 = true) : (bits BinOp.and IntKind.u64 (m : Int) ((mark : Nat) : Int) == 0) = false := by
  rw [u64_and_nat _ _ hm mark_lt]
  have h1 : (m &&& mark).testBit 63 = true := by rw [Nat.testBit_and, mark_bit]; simp [h]
  have h2 : m &&& mark ≠ 0 := by intro e; rw [e, Nat.zero_testBit] at h1; cases h1
  generalize m &&& mark = q at h2
  simp [h2]
theorem hi15 {m i : Nat} (hm : m < 18446744073709551616) (hi : i < 15) (h : m.testBit (48 + i) = true) : (bits BinOp.and IntKind.u64 ((m : Int) / 281474976710656) 32767 != 0) = true := by
  have e := Ma.get_key m 48 15 hm (by decide)
  rw [show (2 : Int) ^ 48 = 281474976710656 from by decide, show ((Ma.lowN 15 : Nat) : Int) = 32767 from by decide] at e
  rw [e]
  have h1 : (Ma.getN m 48 15).testBit i = true := by rw [Ma.testBit_getN]; simp [h, hi]
  have h2 : Ma.getN m 48 15 ≠ 0 := by intro e; rw [e, Nat.zero_testBit] at h1; cases h1
  generalize Ma.getN m 48 15 = q at h2
  simp [h2]

/-- One that may not be has none. -/
theorem ofR_no {x y z : Int} (b1 : -9223372036854775808 ≤ x) (b2 : x ≤ 9223372036854775807) (b3 : -9223372036854775808 ≤ y) (b4 : y ≤ 9223372036854775807) (b5 : -9223372036854775808 ≤ z) (b6 : z ≤ 9223372036854775807)
    (h : ¬ (0 ≤ x ∧ x < 256 ∧ 0 ≤ y ∧ y < 256 ∧ 0 ≤ z ∧ z < 4294967296)) : ofR x y z = 0 := by
  refine if_neg fun hh => h ?_
  obtain ⟨h1, h2, h3⟩ := hh
  have key : ∀ (v : Int) (b : Nat), b ≤ 9223372036854775808 → -9223372036854775808 ≤ v → v ≤ 9223372036854775807 → u64 v < b → 0 ≤ v ∧ v < b := by
    intro v b hb l r hv
    rcases Int.lt_or_le v 0 with hn | hn
    · have := u64_neg hn l; omega
    · rw [u64_small hn (by omega)] at hv; omega
  have q1 := key x _ (by decide) b1 b2 h1
  have q2 := key y _ (by decide) b3 b4 h2
  have q3 := key z _ (by decide) b5 b6 h3
  exact ⟨q1.1, by have := q1.2; omega, q2.1, by have := q2.2; omega, q3.1, by have := q3.2; omega⟩

end Go.Proofs.YtlpaijobcopbnaaDoor
