/-
  Contracts of package word's Field: Right, low, Get, Put, Signed.
-/
import Derived.Test.YtkogeeaoppkhkaaDoorProg
import Derived.Test.YtkogeeaoppkhkaaDoorMaskM
import Derived.WalkKit
import Derived.WalkSpells
import Derived.Lib.Hide
import Derived.Deep.RegionHeld3
import Derived.Deep.QuietTactic
import Derived.BigQuiet
import Derived.WalkSmall
namespace Go.Proofs.YtkogeeaoppkhkaaDoor
open Go.RowKit

theorem wret_bool {a b : Bool} (h : a = b) : Ending.returned (.bool a) = .returned (.bool b) := by rw [h]
theorem wret_int {k : IntKind} {a b : Int} (h : a = b) : Ending.returned (.int k a) = .returned (.int k b) := by rw [h]

/-- May it be a field? -/
def okF (a b : Int) : Prop := 0 ≤ a ∧ a ≤ 63 ∧ 1 ≤ b ∧ a + b ≤ 64

theorem belowBox (w : World) (o : Obj) : Below w.heap.size w (w.alloc o) := (Below.refl _ _).alloc (Nat.le_refl _) o

set_option maxHeartbeats 400000 in
theorem right_yes (a b : Int) (w : World) (h : okF a b) :
    Calls Tryd.prog 92 #[.agg #[.int .i64 a, .int .i64 b]] w fun e w' => e = .returned (.bool true) ∧ Below w.heap.size w w' := by
  obtain ⟨h1, h2, h3, h4⟩ := h
  have h5 : a < 64 := by omega
  have h6 : b ≤ 64 - a := by omega
  go_enter Tryd.func92, Tryd.ntmps92
  go_wp2
  go_ret
  exact ⟨rfl, belowBox _ _⟩

set_option maxHeartbeats 400000 in
theorem right_no (a b : Int) (w : World) (h : ¬ okF a b) :
    Calls Tryd.prog 92 #[.agg #[.int .i64 a, .int .i64 b]] w fun e w' => e = .returned (.bool false) ∧ Below w.heap.size w w' := by
  unfold okF at h
  by_cases h1 : 0 ≤ a
  · by_cases h2 : a < 64
    · by_cases h3 : 1 ≤ b
      · have h4 : ¬ b ≤ 64 - a := by omega
        clear h
        go_enter Tryd.func92, Tryd.ntmps92
        go_wp2
        go_ret
        exact ⟨rfl, belowBox _ _⟩
      · have h3' : decide (1 ≤ b) = false := by simpa using h3
        clear h
        go_enter Tryd.func92, Tryd.ntmps92
        go_wp2
        go_ret
        exact ⟨rfl, belowBox _ _⟩
    · have h2' : decide (a < 64) = false := by simpa using h2
      clear h
      go_enter Tryd.func92, Tryd.ntmps92
      go_wp2
      go_ret
      exact ⟨rfl, belowBox _ _⟩
  · have h1' : decide (0 ≤ a) = false := by simpa using h1
    clear h
    go_enter Tryd.func92, Tryd.ntmps92
    go_wp2
    go_ret
    exact ⟨rfl, belowBox _ _⟩

set_option maxHeartbeats 400000 in
theorem low_any (a : Int) (b : Nat) (w : World) (h : b ≤ 64) :
    Calls Tryd.prog 93 #[.agg #[.int .i64 a, .int .i64 b]] w fun e w' => e = .returned (.int .u64 (Ma.lowN b : Nat)) ∧ Below w.heap.size w w' := by
  have h1 : (0 : Int) ≤ 64 - (b : Int) := by omega
  have h2 : (64 : Int) - (b : Int) ≤ 64 := by omega
  have e : ((64 : Int) - (b : Int)).toNat = 64 - b := by omega
  go_enter Tryd.func93, Tryd.ntmps93
  go_wp2
  go_ret
  exact ⟨wret_int (Ma.ones_shr b h), belowBox _ _⟩

/-! ### The receiver's box, behind calls -/
theorem box_cells {w w1 : World} {a b : Int} {T : TypeId} (hb : Below (w.heap.size + 1) (w.alloc (.cells #[.int .i64 a, .int .i64 b] T)) w1) :
    w1.cell? ⟨w.heap.size, 0, none⟩ = some (.int .i64 a) ∧ w1.cell? ⟨w.heap.size, 1, none⟩ = some (.int .i64 b) ∧ w.heap.size < w1.heap.size ∧ Below w.heap.size w w1 := by
  have h0 := hb.cell (p := ⟨w.heap.size, 0, none⟩) (Nat.lt_succ_self _)
  have h1 := hb.cell (p := ⟨w.heap.size, 1, none⟩) (Nat.lt_succ_self _)
  refine ⟨h0.trans (by simp), h1.trans (by simp), ?_, (belowBox w _).trans (hb.mono (Nat.le_succ _))⟩
  have := hb.size
  simp at this
  omega

theorem box_keep {w w1 w2 : World} {a b : Int} (h : w1.cell? ⟨w.heap.size, 0, none⟩ = some (.int .i64 a) ∧ w1.cell? ⟨w.heap.size, 1, none⟩ = some (.int .i64 b) ∧ w.heap.size < w1.heap.size ∧ Below w.heap.size w w1) (hb : Below w1.heap.size w1 w2) :
    w2.cell? ⟨w.heap.size, 0, none⟩ = some (.int .i64 a) ∧ w2.cell? ⟨w.heap.size, 1, none⟩ = some (.int .i64 b) ∧ w.heap.size < w2.heap.size ∧ Below w.heap.size w w2 := by
  obtain ⟨h0, h1, h2, h3⟩ := h
  exact ⟨(hb.cell (p := ⟨w.heap.size, 0, none⟩) h2).trans h0, (hb.cell (p := ⟨w.heap.size, 1, none⟩) h2).trans h1, Nat.lt_of_lt_of_le h2 hb.size, h3.trans (hb.mono (Nat.le_of_lt h2))⟩

theorem box_below {w w1 : World} {a b : Int} (h : w1.cell? ⟨w.heap.size, 0, none⟩ = some (.int .i64 a) ∧ w1.cell? ⟨w.heap.size, 1, none⟩ = some (.int .i64 b) ∧ w.heap.size < w1.heap.size ∧ Below w.heap.size w w1) : Below w.heap.size w w1 := h.2.2.2
theorem wret_pair {k : IntKind} {a b : Int} {c : Value} (h : a = b) : Ending.returned (.tuple #[.int k a, c]) = .returned (.tuple #[.int k b, c]) := by rw [h]

set_option maxHeartbeats 1000000 in
theorem get_yes (m a b : Nat) (w : World) (hm : m < 18446744073709551616) (h : okF a b) :
    Calls Tryd.prog 75 #[.agg #[.int .i64 a, .int .i64 b], .int .u64 m] w fun e w' => e = .returned (.int .u64 (Ma.getN m a b : Nat)) ∧ Below w.heap.size w w' := by
  have hab : a + b ≤ 64 := by unfold okF at h; omega
  have ha0 : (0 : Int) ≤ (a : Int) := by omega
  have ha1 : (a : Int) ≤ 64 := by omega
  have HO := Lib.hid h
  have HK := Lib.hid (Ma.get_key m a b hm (by omega))
  clear h
  go_enter Tryd.func75, Tryd.ntmps75
  go_wp2_with fail
  refine (right_yes _ _ _ HO.out).mono ?_
  rintro e w1 ⟨rfl, hb⟩
  obtain ⟨hc0, hc1, hlt, hbw⟩ := box_cells (by simpa using hb)
  clear hb
  go_wp2_with fail
  go_region_held3 (fun w' => w'.cell? ⟨w.heap.size, 0, none⟩ = some (.int .i64 (a : Int)) ∧ w'.cell? ⟨w.heap.size, 1, none⟩ = some (.int .i64 (b : Int)) ∧ w.heap.size < w'.heap.size ∧ Below w.heap.size w w') (first | exact ⟨hc0, hc1, hlt, hbw.drew⟩ | exact box_keep (by assumption) hbl) (first | (go_at_call 93; refine (low_any _ _ _ (by omega)).mono ?_; rintro e w2 ⟨rfl, hbl⟩))
  all_goals
    have hB2 := box_below (by assumption)
    go_wp2
    go_ret
    exact ⟨wret_int HK.out, hB2⟩

set_option maxHeartbeats 400000 in
theorem get_no (m : Nat) (a b : Int) (w : World) (h : ¬ okF a b) :
    Calls Tryd.prog 75 #[.agg #[.int .i64 a, .int .i64 b], .int .u64 m] w fun e w' => e = .returned (.int .u64 0) ∧ Below w.heap.size w w' := by
  have HO := Lib.hid h
  clear h
  go_enter Tryd.func75, Tryd.ntmps75
  go_wp2_with fail
  refine (right_no _ _ _ HO.out).mono ?_
  rintro e w1 ⟨rfl, hb⟩
  obtain ⟨hc0, hc1, hlt, hbw⟩ := box_cells (by simpa using hb)
  clear hb
  go_wp2_with fail
  go_ret
  exact ⟨rfl, hbw⟩

set_option maxHeartbeats 400000 in
theorem put_no (m n : Nat) (a b : Int) (w : World) (h : ¬ okF a b) :
    Calls Tryd.prog 94 #[.agg #[.int .i64 a, .int .i64 b], .int .u64 m, .int .u64 n] w fun e w' => e = .returned (.tuple #[.int .u64 m, .bool false]) ∧ Below w.heap.size w w' := by
  have HO := Lib.hid h
  clear h
  go_enter Tryd.func94, Tryd.ntmps94
  go_wp2_with fail
  refine (right_no _ _ _ HO.out).mono ?_
  rintro e w1 ⟨rfl, hb⟩
  obtain ⟨hc0, hc1, hlt, hbw⟩ := box_cells (by simpa using hb)
  clear hb
  go_wp2_with fail
  go_ret2
  exact ⟨rfl, hbw⟩

set_option maxHeartbeats 1000000 in
theorem put_big (m n a b : Nat) (w : World) (h : okF a b) (hn : Ma.lowN b < n) :
    Calls Tryd.prog 94 #[.agg #[.int .i64 a, .int .i64 b], .int .u64 m, .int .u64 n] w fun e w' => e = .returned (.tuple #[.int .u64 m, .bool false]) ∧ Below w.heap.size w w' := by
  have hab : a + b ≤ 64 := by unfold okF at h; omega
  have hn' : ((Ma.lowN b : Nat) : Int) < (n : Int) := by omega
  have HO := Lib.hid h
  clear h
  go_enter Tryd.func94, Tryd.ntmps94
  go_wp2_with fail
  refine (right_yes _ _ _ HO.out).mono ?_
  rintro e w1 ⟨rfl, hb⟩
  obtain ⟨hc0, hc1, hlt, hbw⟩ := box_cells (by simpa using hb)
  clear hb
  go_wp2_with fail
  refine (low_any _ _ _ (by omega)).mono ?_
  rintro e w2 ⟨rfl, hbl⟩
  have HB2 := Lib.hid (box_below (box_keep ⟨hc0, hc1, hlt, hbw⟩ hbl))
  clear hbl
  generalize Ma.lowN b = q at *
  go_wp2_with fail
  go_ret2
  exact ⟨rfl, HB2.out⟩

set_option maxHeartbeats 2000000 in
theorem put_yes (m n a b : Nat) (w : World) (hm : m < 18446744073709551616) (h : okF a b) (hn : n < 2 ^ b) :
    Calls Tryd.prog 94 #[.agg #[.int .i64 a, .int .i64 b], .int .u64 m, .int .u64 n] w fun e w' => e = .returned (.tuple #[.int .u64 (Ma.putN m n a b : Nat), .bool true]) ∧ Below w.heap.size w w' := by
  have hab : a + b ≤ 64 := by unfold okF at h; omega
  have hn' : ¬ ((Ma.lowN b : Nat) : Int) < (n : Int) := by have := (Ma.fits_iff n b).2 hn; omega
  have ha0 : (0 : Int) ≤ (a : Int) := by omega
  have ha1 : (a : Int) ≤ 64 := by omega
  have HO := Lib.hid h
  have HK := Lib.hid (Ma.put_key m n a b hm hn hab)
  clear h
  have HN := Lib.hid hn
  clear hn
  go_enter Tryd.func94, Tryd.ntmps94
  go_wp2_with fail
  refine (right_yes _ _ _ HO.out).mono ?_
  rintro e w1 ⟨rfl, hb⟩
  obtain ⟨hc0, hc1, hlt, hbw⟩ := box_cells (by simpa using hb)
  clear hb
  go_wp2_with fail
  refine (low_any _ _ _ (by omega)).mono ?_
  rintro e w2 ⟨rfl, hbl⟩
  obtain ⟨hd0, hd1, hlt2, hbw2⟩ := box_keep ⟨hc0, hc1, hlt, hbw⟩ hbl
  clear hbl hc0 hc1 hlt hbw
  go_wp2_with fail
  go_region_held3 (fun w' => w'.cell? ⟨w.heap.size, 0, none⟩ = some (.int .i64 (a : Int)) ∧ w'.cell? ⟨w.heap.size, 1, none⟩ = some (.int .i64 (b : Int)) ∧ w.heap.size < w'.heap.size ∧ Below w.heap.size w w') (first | exact ⟨hd0, hd1, hlt2, hbw2.drew⟩ | exact box_keep (by assumption) hbl) (first | (go_at_call 93; refine (low_any _ _ _ (by omega)).mono ?_; rintro e w3 ⟨rfl, hbl⟩))
  all_goals
    have hB2 := box_below (by assumption)
    go_wp2
    go_ret2
    exact ⟨wret_pair HK.out, hB2⟩

end Go.Proofs.YtkogeeaoppkhkaaDoor
