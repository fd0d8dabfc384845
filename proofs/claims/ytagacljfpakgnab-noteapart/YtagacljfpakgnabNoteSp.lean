/-
  What the statements of layer 18 say ahead: one event.
-/
import Derived.Test.YtagacljfpakgnabNote6
import Derived.Test.YtagacljfpakgnabRowNt
namespace Go.Proofs.Ytagacljfpakgnab
open Go.RowKit Go.Sort Go.Maps
attribute [local go_sem] Oper.semAt_some

set_option maxRecDepth 20000 in
set_option maxHeartbeats 4000000 in
theorem speaks18_any (w : World) : Calls Try.prog 6 #[] w fun e w' => e = .returned (.bool true) ∧ Below w.heap.size w w' := by
  have hb := box1 w (.cells #[.slice none 0 0, .map none] 27)
  have S0 := Lib.hid (bn_new w)
  have E0 := Lib.hid hb
  have F0 : Hid (∀ b ∈ w.heap.size :: foot (.slice none 0 0) none, w.heap.size ≤ b) := Lib.hid (fun b hb => by simp [foot, Value.ownBlock] at hb; omega)
  clear hb
  obtain ⟨p1, p2, p3, p4, p5⟩ := sp1
  obtain ⟨r1, r2, r3, r4, r5⟩ := sp2
  go_enter Try.func6, Try.ntmps6
  go_upto_region 2 with fail
  generalize w.alloc (.cells #[.slice none 0 0, .map none] 27) = w0 at *
  have CA := nbegin_any w.heap.size _ _ [] 3 1 5 2 w0 S0 (by decide) (by decide)
  rw [p1, p2] at CA
  rw [Option.isNone_none] at CA
  have CA := Lib.hid CA
  go_wp2_with fail
  refine CA.out.mono ?_
  rintro e w1 ⟨rfl, tn⟩
  obtain ⟨v1, o1, q1, q2, q3⟩ := tn.far F0.out E0.out.size
  have S1 := Lib.hid q1
  have F1 := Lib.hid q2
  have E1 := Lib.hid (E0.out.trans q3)
  clear tn q1 q2 q3 CA
  have CA := nbegin_any w.heap.size _ _ [ev1] 3 0 0 3 w1 S1 (by decide) (by decide)
  rw [p3, r1] at CA
  rw [Option.isNone_some] at CA
  have CA := Lib.hid CA
  go_wp2_with fail
  refine CA.out.mono ?_
  rintro e w2 ⟨rfl, tn⟩
  obtain ⟨v2, o2, q1, q2, q3⟩ := tn.far F1.out E1.out.size
  have S2 := Lib.hid q1
  have F2 := Lib.hid q2
  have E2 := Lib.hid (E1.out.trans q3)
  clear tn q1 q2 q3 CA
  have CA := nstep_any w.heap.size _ _ [ev1] 3 w2 S2 (by decide)
  rw [p3, r2] at CA
  rw [Option.isSome_some] at CA
  have CA := Lib.hid CA
  go_wp2_with fail
  refine CA.out.mono ?_
  rintro e w3 ⟨rfl, tn⟩
  obtain ⟨v3, o3, q1, q2, q3⟩ := tn.far F2.out E2.out.size
  have S3 := Lib.hid q1
  have F3 := Lib.hid q2
  have E3 := Lib.hid (E2.out.trans q3)
  clear tn q1 q2 q3 CA
  have CA := ncount_any w.heap.size _ _ [ev2] 3 0 9 4 w3 S3 (by decide)
  rw [r3, r4] at CA
  have CA := Lib.hid CA
  go_wp2_with fail
  refine CA.out.mono ?_
  rintro e w4 ⟨rfl, tn⟩
  obtain ⟨v4, o4, q1, q2, q3⟩ := tn.far F3.out E3.out.size
  have S4 := Lib.hid q1
  have F4 := Lib.hid q2
  have E4 := Lib.hid (E3.out.trans q3)
  clear tn q1 q2 q3 CA
  have CA := nend_any w.heap.size _ _ [ev3] 3 0 9 4 w4 S4 (by decide) (by decide)
  rw [p5, r5] at CA
  rw [Option.isSome_some] at CA
  have CA := Lib.hid CA
  go_wp2_with fail
  refine CA.out.mono ?_
  rintro e w5 ⟨rfl, tn⟩
  obtain ⟨v5, o5, q1, q2, q3⟩ := tn.far F4.out E4.out.size
  have S5 := Lib.hid q1
  have F5 := Lib.hid q2
  have E5 := Lib.hid (E4.out.trans q3)
  clear tn q1 q2 q3 CA
  go_wp2_with fail
  refine (nevents_any w.heap.size _ _ [ev4] w5 S5 (by decide)).mono ?_
  rintro e w6 ⟨u, rfl, q1, q2, q3⟩
  obtain ⟨lb, cap, rfl, y0, y1, y2, y3, y4, y5, y6, y7, y8, _⟩ := EvRow.cells (i := 0) (x := ev4) q1 rfl
  simp only [ev4, Nat.zero_mul, Nat.zero_add, List.length_singleton] at y0 y1 y2 y3 y4 y5 y6 y7 y8 ⊢
  have E6 := Lib.hid (E5.out.trans (q2.mono E5.out.size))
  clear q1 q2 q3
  go_wp2_with fail
  go_ret
  exact ⟨rfl, E6.out⟩
end Go.Proofs.Ytagacljfpakgnab
