/-
  The walk of the statement WordTiles: a word is all of its fields, put one behind the other into nothing.
-/
import Derived.Test.YtjddbbkmaifcpaaDoorWWordSigns
import Derived.OpenShut
namespace Go.Proofs.YtjddbbkmaifcpaaDoor
open Go.RowKit

/-- What a walk is told of a slice of integers that came in: it is nil, or it leads to a row of 'cap' numbers. -/
def IsRow (k : IntKind) (w : World) (a : Option Addr) (len cap : Nat) (zs : List Int) : Prop :=
  (a = none ∧ len = 0 ∧ cap = 0 ∧ zs = []) ∨
  ∃ x, a = some x ∧ len ≤ cap ∧ cap ≤ maxLen ∧ zs.length = cap ∧ (∀ i, i < zs.length → w.cell? (x.add i) = some (.int k (zs.getD i 0))) ∧ ∀ n ∈ zs, (Lit.int k n).wf = true

theorem getN_zero (m : Nat) : Ma.getN m 0 0 = 0 := Nat.and_zero _
theorem getN_all (m : Nat) (hm : m < 18446744073709551616) : Ma.getN m 0 64 = m := by
  refine Ma.word_ext (Ma.getN_lt 0 64 hm) hm fun i hi => ?_
  rw [Ma.testBit_getN]; simp [hi]
theorem tile_step (m a n : Nat) (hm : m < 18446744073709551616) (h : a + n ≤ 64) : Ma.putN (Ma.getN m 0 a) (Ma.getN m a n) a n = Ma.getN m 0 (a + n) := by
  refine Ma.word_ext (Ma.putN_lt (Ma.getN_lt 0 a hm) (Ma.getN_lt_pow m a n) h) (Ma.getN_lt 0 _ hm) fun i hi => ?_
  rw [Ma.testBit_putN (Ma.getN_lt 0 a hm) (Ma.getN_lt_pow m a n) h, Ma.testBit_getN, Ma.testBit_getN, Ma.testBit_getN]
  split
  · rename_i hc
    rw [show a + (i - a) = 0 + i from by omega]
    congr 1
    rw [decide_eq_decide]; omega
  · rename_i hc
    congr 1
    rw [decide_eq_decide]; omega

theorem tile_get (m a q : Nat) (n : Int) (w : World) (hm : m < 18446744073709551616) (hn : n = q) (h1 : 1 ≤ q) (h2 : a + q ≤ 64) :
    Calls Tryd.prog 19 #[.agg #[.int .i64 a, .int .i64 n], .int .u64 m] w fun e w' => e = .returned (.int .u64 (Ma.getN m a q : Nat)) ∧ Below w.heap.size w w' := by
  subst hn
  exact get_yes m a q w hm (by unfold okF; omega)
theorem tile_put (m a q : Nat) (n : Int) (w : World) (hm : m < 18446744073709551616) (hn : n = q) (h1 : 1 ≤ q) (h2 : a + q ≤ 64) :
    Calls Tryd.prog 18 #[.agg #[.int .i64 a, .int .i64 n], .int .u64 (Ma.getN m 0 a : Nat), .int .u64 (Ma.getN m a q : Nat)] w fun e w' => e = .returned (.tuple #[.int .u64 (Ma.getN m 0 (a + q) : Nat), .bool true]) ∧ Below w.heap.size w w' := by
  subst hn
  rw [← tile_step m a q hm h2]
  exact put_yes _ _ a q w (Ma.getN_lt 0 a hm) (by unfold okF; omega) (Ma.getN_lt_pow m a q)

theorem box_drew {w w1 : World} {a b : Int} (h : w1.cell? ⟨w.heap.size, 0, none⟩ = some (.int .i64 a) ∧ w1.cell? ⟨w.heap.size, 1, none⟩ = some (.int .i64 b) ∧ w.heap.size < w1.heap.size ∧ Below w.heap.size w w1) : w1.drew.cell? ⟨w.heap.size, 0, none⟩ = some (.int .i64 a) ∧ w1.drew.cell? ⟨w.heap.size, 1, none⟩ = some (.int .i64 b) ∧ w.heap.size < w1.drew.heap.size ∧ Below w.heap.size w w1.drew := ⟨h.1, h.2.1, h.2.2.1, h.2.2.2.drew⟩

set_option maxHeartbeats 2000000 in
theorem tiles_some (m b off len cap : Nat) (f : Nat → Int) (w : World) (hm : m < 18446744073709551616) (hlen : len ≤ 9223372036854775807) (hbk : b < w.heap.size) (hc : Hid (∀ j, j < len → w.cell? ⟨b, off + j, none⟩ = some (.int .u8 (f j)))) (hf : Hid (∀ j, j < len → 0 ≤ f j ∧ f j ≤ 255)) (hR : Hid (RefAt w)) :
    Calls Tryd.prog 7 #[.int .u64 m, .slice (some ⟨b, off, none⟩) len cap] w fun e w' => e = .returned (.bool true) ∧ Below w.heap.size w w' := by
  go_enter Tryd.func7, Tryd.ntmps7
  go_wp2_with fail
  refine (speaks1 _ hR).mono ?_
  rintro e w1 ⟨rfl, hb⟩
  have HB := Lib.hid hb
  clear hb
  go_wp2_with fail
  go_loopw [5, 6, 7] (fun r t u wr => ∃ a i : Nat, a ≤ 64 ∧ i ≤ a ∧ r = .int .u64 (Ma.getN m 0 a : Nat) ∧ t = .int .i64 a ∧ u = .int .i64 i ∧ Below w.heap.size w wr) (fun _ t _ _ => 64 - (intOf t).toNat)
  case atStart => exact ⟨0, 0, by omega, by omega, by rw [getN_zero]; rfl, rfl, rfl, HB.out⟩
  case round =>
    obtain ⟨a, i, ha, hi, rfl, rfl, rfl, hbw⟩ := hrel
    have HBW := Lib.hid hbw
    clear hbw
    have hl := Ma.getN_lt 0 a hm
    by_cases hlt : a < 64
    · by_cases hil : i < len
      · have hcell : wr.cell? ⟨b, off + i, none⟩ = some (.int .u8 (f i)) := (HBW.out.cell (p := ⟨b, off + i, none⟩) hbk).trans (hc.out i hil)
        obtain ⟨v0, v1⟩ := hf.out i hil
        generalize f i = v at *
        by_cases hmin : 1 + v % 64 < 64 - (a : Int)
        · obtain ⟨q, hq⟩ : ∃ q : Nat, 1 + v % 64 = (q : Int) := ⟨(1 + v % 64).toNat, by omega⟩
          have h1q : 1 ≤ q := by omega
          have h2q : a + q ≤ 64 := by omega
          have HN := Lib.hid hq
          clear hq
          have hbox0 := box_drew (box_cells (Below.refl (wr.heap.size + 1) (wr.alloc (.cells #[.int .i64 (a : Int), .int .i64 (1 + v % 64)] 24))))
          have hbox := Lib.hid hbox0
          clear hbox0
          go_wp2_with fail
          go_region_held3 (fun w' => w'.cell? ⟨wr.heap.size, 0, none⟩ = some (.int .i64 (a : Int)) ∧ w'.cell? ⟨wr.heap.size, 1, none⟩ = some (.int .i64 (1 + v % 64)) ∧ wr.heap.size < w'.heap.size ∧ Below wr.heap.size wr w') (first | exact hbox.out | exact box_keep (by assumption) hbl | assumption) (first | (go_at_call 19; refine (tile_get _ _ q _ _ hm HN.out h1q h2q).mono ?_; rintro e w4 ⟨rfl, hbl⟩) | (go_at_call 18; refine (tile_put _ _ q _ _ hm HN.out h1q h2q).mono ?_; rintro e w4 ⟨rfl, hbl⟩))
          all_goals
            have hB2 := box_below (by assumption)
            have HB2 := Lib.hid (below_next HBW.out hB2)
            clear hB2
            go_wp2_with fail
            go_roundw
            case rel => exact ⟨a + q, i + 1, by omega, by omega, rfl, by have := HN.out; go_num, by go_num, HB2.out⟩
            case measure => have := HN.out; simp [intOf]; omega
        · obtain ⟨q, hq⟩ : ∃ q : Nat, 64 - (a : Int) = (q : Int) := ⟨64 - a, by omega⟩
          have h1q : 1 ≤ q := by omega
          have h2q : a + q ≤ 64 := by omega
          have HN := Lib.hid hq
          clear hq
          have hbox0 := box_drew (box_cells (Below.refl (wr.heap.size + 1) (wr.alloc (.cells #[.int .i64 (a : Int), .int .i64 (64 - (a : Int))] 24))))
          have hbox := Lib.hid hbox0
          clear hbox0
          go_wp2_with fail
          go_region_held3 (fun w' => w'.cell? ⟨wr.heap.size, 0, none⟩ = some (.int .i64 (a : Int)) ∧ w'.cell? ⟨wr.heap.size, 1, none⟩ = some (.int .i64 (64 - (a : Int))) ∧ wr.heap.size < w'.heap.size ∧ Below wr.heap.size wr w') (first | exact hbox.out | exact box_keep (by assumption) hbl | assumption) (first | (go_at_call 19; refine (tile_get _ _ q _ _ hm HN.out h1q h2q).mono ?_; rintro e w4 ⟨rfl, hbl⟩) | (go_at_call 18; refine (tile_put _ _ q _ _ hm HN.out h1q h2q).mono ?_; rintro e w4 ⟨rfl, hbl⟩))
          all_goals
            have hB2 := box_below (by assumption)
            have HB2 := Lib.hid (below_next HBW.out hB2)
            clear hB2
            go_wp2_with fail
            go_roundw
            case rel => exact ⟨a + q, i + 1, by omega, by omega, rfl, by have := HN.out; go_num, by go_num, HB2.out⟩
            case measure => have := HN.out; simp [intOf]; omega
      · obtain ⟨q, hq⟩ : ∃ q : Nat, 64 - (a : Int) = (q : Int) := ⟨64 - a, by omega⟩
        have h1q : 1 ≤ q := by omega
        have h2q : a + q ≤ 64 := by omega
        have HN := Lib.hid hq
        clear hq
        have hbox0 := box_drew (box_cells (Below.refl (wr.heap.size + 1) (wr.alloc (.cells #[.int .i64 (a : Int), .int .i64 (64 - (a : Int))] 24))))
        have hbox := Lib.hid hbox0
        clear hbox0
        go_wp2_with fail
        go_region_held3 (fun w' => w'.cell? ⟨wr.heap.size, 0, none⟩ = some (.int .i64 (a : Int)) ∧ w'.cell? ⟨wr.heap.size, 1, none⟩ = some (.int .i64 (64 - (a : Int))) ∧ wr.heap.size < w'.heap.size ∧ Below wr.heap.size wr w') (first | exact hbox.out | exact box_keep (by assumption) hbl | assumption) (first | (go_at_call 19; refine (tile_get _ _ q _ _ hm HN.out h1q h2q).mono ?_; rintro e w4 ⟨rfl, hbl⟩) | (go_at_call 18; refine (tile_put _ _ q _ _ hm HN.out h1q h2q).mono ?_; rintro e w4 ⟨rfl, hbl⟩))
        all_goals
          have hB2 := box_below (by assumption)
          have HB2 := Lib.hid (below_next HBW.out hB2)
          clear hB2
          go_wp2_with fail
          go_roundw
          case rel => exact ⟨a + q, i + 1, by omega, by omega, rfl, by have := HN.out; go_num, by go_num, HB2.out⟩
          case measure => have := HN.out; simp [intOf]; omega
    · obtain rfl : a = 64 := by omega
      have HE := Lib.hid (getN_all m hm)
      rw [HE.out]
      go_wp2_with fail
      go_ret
      exact ⟨rfl, HBW.out⟩


set_option maxHeartbeats 2000000 in
theorem tiles_nil (m cap : Nat) (ad : Option Addr) (w : World) (hm : m < 18446744073709551616) (hR : Hid (RefAt w)) :
    Calls Tryd.prog 7 #[.int .u64 m, .slice ad 0 cap] w fun e w' => e = .returned (.bool true) ∧ Below w.heap.size w w' := by
  go_enter Tryd.func7, Tryd.ntmps7
  go_wp2_with fail
  refine (speaks1 _ hR).mono ?_
  rintro e w1 ⟨rfl, hb⟩
  have HB := Lib.hid hb
  clear hb
  go_wp2_with fail
  go_loopw [5, 6, 7] (fun r t u wr => ∃ a i : Nat, a ≤ 64 ∧ i ≤ a ∧ r = .int .u64 (Ma.getN m 0 a : Nat) ∧ t = .int .i64 a ∧ u = .int .i64 i ∧ Below w.heap.size w wr) (fun _ t _ _ => 64 - (intOf t).toNat)
  case atStart => exact ⟨0, 0, by omega, by omega, by rw [getN_zero]; rfl, rfl, rfl, HB.out⟩
  case round =>
    obtain ⟨a, i, ha, hi, rfl, rfl, rfl, hbw⟩ := hrel
    have HBW := Lib.hid hbw
    clear hbw
    have hl := Ma.getN_lt 0 a hm
    by_cases hlt : a < 64
    · obtain ⟨q, hq⟩ : ∃ q : Nat, 64 - (a : Int) = (q : Int) := ⟨64 - a, by omega⟩
      have h1q : 1 ≤ q := by omega
      have h2q : a + q ≤ 64 := by omega
      have HN := Lib.hid hq
      clear hq
      have hbox0 := box_drew (box_cells (Below.refl (wr.heap.size + 1) (wr.alloc (.cells #[.int .i64 (a : Int), .int .i64 (64 - (a : Int))] 24))))
      have hbox := Lib.hid hbox0
      clear hbox0
      go_wp2_with fail
      go_region_held3 (fun w' => w'.cell? ⟨wr.heap.size, 0, none⟩ = some (.int .i64 (a : Int)) ∧ w'.cell? ⟨wr.heap.size, 1, none⟩ = some (.int .i64 (64 - (a : Int))) ∧ wr.heap.size < w'.heap.size ∧ Below wr.heap.size wr w') (first | exact hbox.out | exact box_keep (by assumption) hbl | assumption) (first | (go_at_call 19; refine (tile_get _ _ q _ _ hm HN.out h1q h2q).mono ?_; rintro e w4 ⟨rfl, hbl⟩) | (go_at_call 18; refine (tile_put _ _ q _ _ hm HN.out h1q h2q).mono ?_; rintro e w4 ⟨rfl, hbl⟩))
      all_goals
        have hB2 := box_below (by assumption)
        have HB2 := Lib.hid (below_next HBW.out hB2)
        clear hB2
        go_wp2_with fail
        go_roundw
        case rel => exact ⟨a + q, i + 1, by omega, by omega, rfl, by have := HN.out; go_num, by go_num, HB2.out⟩
        case measure => have := HN.out; simp [intOf]; omega
    · obtain rfl : a = 64 := by omega
      have HE := Lib.hid (getN_all m hm)
      rw [HE.out]
      go_wp2_with fail
      go_ret
      exact ⟨rfl, HBW.out⟩


theorem tiles_walk (m : Nat) (a : Option Addr) (len cap : Nat) (zs : List Int) (w : World) (hm : m < 18446744073709551616) (hz : IsRow .u8 w a len cap zs) (hR : RefAt w) :
    Calls Tryd.prog 7 #[.int .u64 m, .slice a len cap] w fun e w' => e = .returned (.bool true) ∧ Below w.heap.size w w' := by
  rcases hz with ⟨rfl, rfl, rfl, _⟩ | ⟨x, rfl, hlc, hcm, hzl, hcell, hwf⟩
  · exact tiles_nil m 0 none w hm hR
  · by_cases h0 : len = 0
    · subst h0; exact tiles_nil m cap _ w hm hR
    · unfold maxLen at hcm
      obtain ⟨b, off, rfl, hc⟩ := ints_at hcell (by omega)
      refine tiles_some m b off len cap (fun j => zs.getD j 0) w hm (by omega) (World.block_lt_of_cell? w ⟨b, off + 0, none⟩ (hc 0 (by omega))) (show ∀ j, j < len → _ from fun j hj => hc j (by omega)) (show ∀ j, j < len → _ from fun j hj => ?_) hR
      have hm2 : zs.getD j 0 ∈ zs := by
        rw [List.getD_eq_getElem?_getD, List.getElem?_eq_getElem (by omega), Option.getD_some]
        exact List.getElem_mem _
      exact bounds_u8 (hwf _ hm2)

end Go.Proofs.YtjddbbkmaifcpaaDoor
