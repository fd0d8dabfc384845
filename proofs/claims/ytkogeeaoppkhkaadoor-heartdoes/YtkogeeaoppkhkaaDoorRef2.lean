/-
  Contracts of the document's own answers of layer 2: List, Of, Least, Low, Run.
-/
import Derived.Test.YtkogeeaoppkhkaaDoorRef1
import Derived.Test.YtkogeeaoppkhkaaDoorMask5
import Derived.Test.YtkogeeaoppkhkaaDoorWMaskRuns
namespace Go.Proofs.YtkogeeaoppkhkaaDoor
open Go.RowKit

theorem rhas_is (m i : Nat) (b : Bool) (w : World) (hm : m < 18446744073709551616) (h1 : i < 64) (hb : m.testBit i = b) :
    Calls Tryd.prog 74 #[.int .u64 m, .int .i64 i] w fun e w' => e = .returned (.bool b) ∧ w = w' := by
  have := rhas_yes m i w hm (by omega) (by omega)
  rw [Int.toNat_natCast, hb] at this
  exact this

/-- The members below k. -/
def memTo (m k : Nat) : List Nat := (List.range k).filter fun i => m.testBit i
theorem memTo_step (m k : Nat) : memTo m (k + 1) = memTo m k ++ if m.testBit k then [k] else [] := by
  unfold memTo
  rw [List.range_succ, List.filter_append]
  congr 1
  simp [List.filter_cons]
theorem memTo_le (m k : Nat) : (memTo m k).length ≤ k := by
  have := List.length_filter_le (fun i => m.testBit i) (List.range k)
  simpa [memTo] using this

theorem rlist_step {B k : Nat} {m : Nat} {w wr w1 : World} {v v' : Value} (o : Obj) (hb : m.testBit k = true)
    (hB : B ≤ wr.heap.size) (hown : wr.ownsRow B 3 1 v (memTo m k).length (ints (memTo m k))) (hnx : Below B w wr)
    (hown' : w1.ownsRow B 3 1 v' ((memTo m k).length + 1) (ints (memTo m k) ++ [.int .i64 (k : Nat)])) (hg : (wr.alloc o).grownBy w1 v.ownBlock) :
    w1.ownsRow B 3 1 v' (memTo m (k + 1)).length (ints (memTo m (k + 1))) ∧ Below B w w1 := by
  refine ⟨?_, (hnx.alloc hB o).grown hg (by simp; omega) (fun j hj => (World.ownsRow.lt hown j hj).1)⟩
  rw [memTo_step, hb]
  simpa [ints] using hown'

set_option maxHeartbeats 1000000 in
theorem rlist_any (m : Nat) (w : World) (hm : m < 18446744073709551616) :
    Calls Tryd.prog 90 #[.int .u64 m] w (Listed (Ma.mem m) w) := by
  obtain ⟨i0, hi, hz0, hz1, hz2⟩ := info_parts info_int
  go_enter Tryd.func90, Tryd.ntmps90
  go_wp2_with fail
  go_loopw [3, 4] (fun l t wr => ∃ k : Nat, k ≤ 64 ∧ t = .int .i64 k ∧ wr.ownsRow w.heap.size 3 1 l (memTo m k).length (ints (memTo m k)) ∧ Below w.heap.size w wr) (fun _ t _ => 64 - (intOf t).toNat)
  case atStart => exact ⟨0, Nat.zero_le _, rfl, World.ownsRow_made w #[] 0 (Nat.le_refl _) (Nat.zero_le _) rfl, (Below.refl _ _).alloc (Nat.le_refl _) _⟩
  case round =>
    obtain ⟨k, hk, rfl, hown, hnx⟩ := hrel
    have hBz := hnx.size
    have hle := memTo_le m k
    by_cases hlt : k < 64
    · have hlt' : (k : Int) < 64 := by omega
      rcases hb : m.testBit k with _ | _
      · have HB := Lib.hid hb
        have R0 : wr.ownsRow w.heap.size 3 1 u3 (memTo m (k + 1)).length (ints (memTo m (k + 1))) := by
          rw [memTo_step, hb]; simpa using hown
        have R1 := Lib.hid R0
        clear R0
        have R2 := Lib.hid hnx
        clear hb hown hnx
        go_wp2_with fail
        refine (rhas_is _ _ _ _ hm hlt HB.out).mono ?_
        rintro e w' ⟨rfl, rfl⟩
        go_wp2_with fail
        go_roundw
        case rel => exact ⟨k + 1, by omega, by go_num, R1.out, R2.out⟩
        case measure => simp [intOf]; omega
      · have HB := Lib.hid hb
        clear hb
        go_wp2_with fail
        refine (rhas_is _ _ _ _ hm hlt HB.out).mono ?_
        rintro e w' ⟨rfl, rfl⟩
        go_wp2_with (at_builtin; refine wpList_append_own _ rfl _ _ 22 rfl w.heap.size 3 i0 (.int .i64 0) 1 8 Tryd.underlying22 hi hz0 hz1 hz2 rfl (by decide) _ _ _ rfl (hown.alloc _) ⟨wr.heap.size, 0, none⟩ 1 1 [.int .i64 (k : Nat)] rfl rfl ?c1 ?c2 ?c3 ?c4 ?c5 ?_)
        case c1 => exact cell_one_new _ _ _
        case c2 => intro u hu; simp at hu; subst hu; rfl
        case c3 => unfold maxLen; omega
        case c4 => omega
        case c5 => simp; omega
        intro v' w1 hown' hgrow _
        have R := rlist_step _ HB.out hBz hown hnx hown' hgrow
        have R1 := Lib.hid R.1
        have R2 := Lib.hid R.2
        clear hown' hgrow hown hnx R
        go_wp2_with fail
        go_roundw
        case rel => exact ⟨k + 1, by omega, by go_num, R1.out, R2.out⟩
        case measure => simp [intOf]; omega
    · obtain rfl : k = 64 := by omega
      have R1 : Hid (wr.ownsRow w.heap.size 3 1 u3 (Ma.mem m).length (ints (Ma.mem m))) := hown
      have R2 := Lib.hid hnx
      clear hown hnx
      go_wp2_with fail
      go_ret
      exact ⟨_, rfl, R1.out, R2.out⟩

/-! ### Of -/
def addTo (m : Nat) (z : Int) : Nat := if 0 ≤ z ∧ z ≤ 63 then Ma.withN m z.toNat else m
def ofTo (f : Nat → Int) : Nat → Nat
  | 0 => 0
  | k + 1 => addTo (ofTo f k) (f k)
theorem addTo_lt {m : Nat} (z : Int) (hm : m < 18446744073709551616) : addTo m z < 18446744073709551616 := by
  unfold addTo; split
  · exact Ma.withN_lt hm (by omega)
  · exact hm
theorem ofTo_lt (f : Nat → Int) : ∀ k, ofTo f k < 18446744073709551616
  | 0 => by simp [ofTo]
  | k + 1 => addTo_lt _ (ofTo_lt f k)
theorem withN_same {m k : Nat} (hb : m.testBit k = true) : Ma.withN m k = m := by
  apply Nat.eq_of_testBit_eq
  intro i
  rw [Ma.testBit_withN]
  by_cases h : k = i
  · subst h; simp [hb]
  · simp [h]
theorem withN_add {m k : Nat} (hb : m.testBit k = false) : Ma.withN m k = m + 2 ^ k := by
  unfold Ma.withN
  rw [Nat.add_comm, Nat.or_comm]
  apply Nat.eq_of_testBit_eq
  intro i
  rw [Nat.testBit_or, Ma.testBit_pow]
  rcases Nat.lt_trichotomy i k with h | h | h
  · rw [Nat.testBit_two_pow_add_gt h]
    simp [show ¬ k = i by omega]
  · subst h
    rw [Nat.testBit_two_pow_add_eq, hb]
    simp
  · have e1 : m = 2 ^ (k + 1) * (m / 2 ^ (k + 1)) + m % 2 ^ (k + 1) := (Nat.div_add_mod m (2 ^ (k + 1))).symm
    have hlt : m % 2 ^ (k + 1) < 2 ^ k := by
      have h2 : m % 2 ^ (k + 1) < 2 ^ (k + 1) := Nat.mod_lt _ (Nat.two_pow_pos _)
      apply Nat.lt_of_not_le
      intro hle
      have hb2 : (m % 2 ^ (k + 1)).testBit k = true := by
        apply Nat.testBit_of_two_pow_le_and_two_pow_add_one_gt hle h2
      rw [Nat.testBit_mod_two_pow] at hb2
      simp [hb] at hb2
    have hs : 2 ^ k + m % 2 ^ (k + 1) < 2 ^ (k + 1) := by
      have hp : 2 ^ (k + 1) = 2 ^ k * 2 := Nat.pow_succ 2 k
      generalize m % 2 ^ (k + 1) = r at *
      omega
    have e2 : 2 ^ k + m = 2 ^ (k + 1) * (m / 2 ^ (k + 1)) + (2 ^ k + m % 2 ^ (k + 1)) := by
      conv => lhs; rw [e1]
      omega
    conv => lhs; rw [e1]
    rw [e2, Nat.testBit_two_pow_mul_add _ (Nat.mod_lt _ (Nat.two_pow_pos _)), Nat.testBit_two_pow_mul_add _ hs]
    simp [show ¬ i < k + 1 by omega, show ¬ k = i by omega]

theorem add_key (m k : Nat) (hm : m < 18446744073709551616) (hk : k < 64) (hb : m.testBit k = false) : IntKind.u64.wrap ((m : Int) + ((2 ^ k : Nat) : Int)) = ((Ma.withN m k : Nat) : Int) := by
  have h := Ma.withN_lt hm hk
  rw [withN_add hb] at h ⊢
  exact Ma.wrap_add _ _ h

set_option maxHeartbeats 1000000 in
theorem rof_any (b off len cap : Nat) (f : Nat → Int) (w : World) (hlen : len < 9223372036854775807) (hc : Hid (∀ j, j < len → w.cell? ⟨b, off + j, none⟩ = some (.int .i64 (f j)))) :
    Calls Tryd.prog 86 #[.slice (some ⟨b, off, none⟩) len cap] w fun e w' => e = .returned (.int .u64 (ofTo f len : Nat)) ∧ w = w' := by
  go_enter Tryd.func86, Tryd.ntmps86
  go_wp2_with fail
  go_loop [3, 4] (fun p t => ∃ k : Nat, k ≤ len ∧ t = .int .i64 k ∧ p = .int .u64 (ofTo f k : Nat)) (fun _ t => len - (intOf t).toNat)
  case atStart => exact ⟨0, Nat.zero_le _, rfl, rfl⟩
  case round =>
    obtain ⟨k, hk, rfl, rfl⟩ := hrel
    have hl := ofTo_lt f k
    have HS : Hid (ofTo f (k + 1) = addTo (ofTo f k) (f k)) := rfl
    generalize hy : ofTo f k = y at *
    have HY := Lib.hid hy
    clear hy
    by_cases hlt : k < len
    · have hcell := hc.out k hlt
      generalize hz : f k = z at *
      have HZ := Lib.hid hz
      clear hz
      by_cases h0 : 0 ≤ z
      · by_cases h1 : z ≤ 63
        · rcases hb : y.testBit z.toNat with _ | _
          · have HB := Lib.hid hb
            have HA := Lib.hid (add_key y z.toNat hl (by omega) hb)
            have HT : Hid (addTo y z = Ma.withN y z.toNat) := if_pos ⟨h0, h1⟩
            clear hb
            go_wp2_with fail
            refine (rhas_yes _ _ _ hl h0 (by omega)).mono ?_
            rintro e w' ⟨rfl, rfl⟩
            rw [HB.out]
            go_wp2_with fail
            refine (power_any _ _ h0 (by omega)).mono ?_
            rintro e w' ⟨rfl, rfl⟩
            have hq := Ma.pow_lt (show z.toNat < 64 by omega)
            generalize hpq : 2 ^ z.toNat = q at *
            have HQ := Lib.hid hpq
            clear hpq
            go_wp2_with fail
            go_round
            case rel => exact ⟨k + 1, by omega, by go_num, by rw [HS.out, HT.out, ← HA.out]⟩
            case measure => simp [intOf]; omega
          · have HB := Lib.hid hb
            have HT : Hid (addTo y z = y) := (if_pos ⟨h0, h1⟩).trans (withN_same hb)
            clear hb
            go_wp2_with fail
            refine (rhas_yes _ _ _ hl h0 (by omega)).mono ?_
            rintro e w' ⟨rfl, rfl⟩
            rw [HB.out]
            go_wp2_with fail
            go_round
            case rel => exact ⟨k + 1, by omega, by go_num, by rw [HS.out, HT.out]⟩
            case measure => simp [intOf]; omega
        · have HT : Hid (addTo y z = y) := if_neg (fun h => h1 h.2)
          have h1' : decide (z ≤ 63) = false := by simpa using h1
          go_wp2_with fail
          go_round
          case rel => exact ⟨k + 1, by omega, by go_num, by rw [HS.out, HT.out]⟩
          case measure => simp [intOf]; omega
      · have HT : Hid (addTo y z = y) := if_neg (fun h => h0 h.1)
        have h0' : decide (0 ≤ z) = false := by simpa using h0
        go_wp2_with fail
        go_round
        case rel => exact ⟨k + 1, by omega, by go_num, by rw [HS.out, HT.out]⟩
        case measure => simp [intOf]; omega
    · obtain rfl : k = len := by omega
      go_wp2_with fail
      go_ret
      exact ⟨ret_int (by rw [HY.out]), rfl⟩

set_option maxHeartbeats 400000 in
theorem rof_nil (a : Option Addr) (cap : Nat) (w : World) :
    Calls Tryd.prog 86 #[.slice a 0 cap] w fun e w' => e = .returned (.int .u64 0) ∧ w = w' := by
  go_enter Tryd.func86, Tryd.ntmps86
  go_wp2_with fail
  go_loop [3, 4] (fun p t => t = .int .i64 0 ∧ p = .int .u64 0) (fun _ _ => 0)
  case atStart => exact ⟨rfl, rfl⟩
  case round =>
    obtain ⟨rfl, rfl⟩ := hrel
    go_wp2_with fail
    go_ret
    exact ⟨rfl, rfl⟩

end Go.Proofs.YtkogeeaoppkhkaaDoor
