/-
  Contract of the statements' own 'speaks' of layer 3: a word that is swung.
-/
import Derived.Test.YtnjgajkcoahefaaMem3
namespace Go.Proofs.Ytnjgajkcoahefaa
open Go.RowKit

theorem below_then {w w1 w2 : World} (h : Below w.heap.size w w1) (h2 : Below w1.heap.size w1 w2) : Below w.heap.size w w2 := h.trans (h2.mono h.size)
theorem below_else {w w1 w2 : World} {g h : Nat} (b : Below w.heap.size w w1) (hg : w.heap.size ≤ g) (hh : w.heap.size ≤ h) (x : Else g h w1 w2) : Below w.heap.size w w2 := b.trans (x.below hg hh b.size)
theorem new_two (w : World) : Calls Try.prog 16 #[.int .i64 2] w fun e w' => ∃ g h, e = .returned (.pointer (some ⟨g, 0, none⟩)) ∧ MemAt w' g h ⟨[0, 0], 0, 0, 0, 0⟩ ∧ w.heap.size ≤ g ∧ w.heap.size ≤ h ∧ Below w.heap.size w w' := new_nat 2 2 w (.inr (.inl ⟨rfl, by decide⟩))

set_option maxHeartbeats 1000000 in
theorem speaks3 (w : World) :
    Calls Try.prog 15 #[] w fun e w' => e = .returned (.bool true) ∧ Below w.heap.size w w' := by
  go_enter Try.func15, Try.ntmps15
  go_wp2_with fail
  refine (new_two _).mono ?_
  rintro e w1 ⟨g, h, rfl, m1, hg, hh, hb⟩
  have B1 := Lib.hid hb
  clear hb
  go_wp2_with fail
  refine (store_any g h _ 1 5 _ m1 (by decide) (by decide)).mono ?_
  rintro e w2 ⟨rfl, m, hx⟩
  have m2 : MemAt w2 g h ⟨[0, 5], 1, 0, 2, 1⟩ := m
  have B2 := Lib.hid (below_else B1.out hg hh hx)
  clear m hx m1
  go_wp2_with fail
  refine (swing_any g h _ 1 5 7 _ m2 (by decide) (by decide)).mono ?_
  rintro e w3 ⟨he, m, hx⟩
  have he' : e = .returned (.bool true) := he
  subst he'
  have m3 : MemAt w3 g h ⟨[0, 7], 2, 0, 4, 1⟩ := m
  have B3 := Lib.hid (below_else B2.out hg hh hx)
  clear m hx m2 he
  go_wp2_with fail
  refine (swing_any g h _ 1 5 7 _ m3 (by decide) (by decide)).mono ?_
  rintro e w4 ⟨he, m, hx⟩
  have he' : e = .returned (.bool false) := he
  subst he'
  have m4 : MemAt w4 g h ⟨[0, 7], 3, 0, 4, 1⟩ := m
  have B4 := Lib.hid (below_else B3.out hg hh hx)
  clear m hx m3 he
  go_wp2_with fail
  refine (load_any g h _ 1 _ m4 (by decide) (by decide)).mono ?_
  rintro e w5 ⟨he, m, hx⟩
  have he' : e = .returned (.int .u64 7) := he
  subst he'
  have m5 : MemAt w5 g h ⟨[0, 7], 4, 0, 1, 1⟩ := m
  have B5 := Lib.hid (below_else B4.out hg hh hx)
  clear m hx m4 he
  go_wp2_with fail
  refine (ops_any g h _ _ m5).mono ?_
  rintro e w' ⟨he, rfl⟩
  have he' : e = .returned (.int .i64 4) := he
  subst he'
  clear he
  go_wp2_with fail
  refine (faults_any g h _ _ m5).mono ?_
  rintro e w' ⟨he, rfl⟩
  have he' : e = .returned (.int .i64 0) := he
  subst he'
  clear he
  go_wp2_with fail
  refine (len_any g h _ _ m5).mono ?_
  rintro e w' ⟨he, rfl⟩
  have he' : e = .returned (.int .i64 2) := he
  subst he'
  clear he
  go_wp2_with fail
  refine (last_any g h _ _ m5).mono ?_
  rintro e w6 ⟨rfl, hb⟩
  have B6 := Lib.hid (below_then B5.out hb)
  clear hb m5
  go_wp2_with fail
  go_ret
  exact ⟨rfl, B6.out⟩

end Go.Proofs.Ytnjgajkcoahefaa
