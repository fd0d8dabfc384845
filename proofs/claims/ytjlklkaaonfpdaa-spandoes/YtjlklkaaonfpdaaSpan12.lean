/-
  Contract of the statements' own 'speaks' of layer 6: two intervals, one of which can't be.
-/
import Derived.Test.YtjlklkaaonfpdaaSpan11
namespace Go.Proofs.Ytjlklkaaonfpdaa
open Go.RowKit Go.Sort

set_option maxHeartbeats 1000000 in
theorem speaks6 (w : World) :
    Calls Try.prog 33 #[] w fun e w' => e = .returned (.bool true) ∧ Below w.heap.size w w' := by
  have S0 : Hid (Sm w (w.alloc (.cells #[.slice none 0 0] 54)) w.heap.size (fun _ => False) []) := Sm.start (Below.refl _ _) (fun k h => h.elim)
  go_enter Try.func33, Try.ntmps33
  go_wp2_with fail
  generalize w.alloc (.cells #[.slice none 0 0] 54) = w1 at *
  generalize hN : w.heap.size = N at *
  refine (sm_put S0 16 16 (by decide)).mono ?_
  rintro e w2 ⟨he, s, _⟩
  obtain rfl : e = .returned (.bool true) := he
  have S1 : Hid (Sm w w2 N (fun _ => False) [(16, 16)]) := s
  clear s S0
  go_wp2_with fail
  refine (sm_put S1 31 4 (by decide)).mono ?_
  rintro e w3 ⟨he, s, _⟩
  obtain rfl : e = .returned (.bool false) := he
  have S2 : Hid (Sm w w3 N (fun _ => False) [(16, 16)]) := s
  clear s S1
  go_wp2_with fail
  refine (sm_put S2 32 4 (by decide)).mono ?_
  rintro e w4 ⟨he, s, _⟩
  obtain rfl : e = .returned (.bool true) := he
  have S3 : Hid (Sm w w4 N (fun _ => False) [(16, 16), (32, 4)]) := s
  clear s S2
  go_wp2_with fail
  refine (sm_get S3 32).mono ?_
  rintro e w5 ⟨he, hb⟩
  obtain rfl : e = .returned (.tuple #[.agg #[.int .i64 32, .int .i64 4], .bool true]) := he
  have S4 := Lib.hid (S3.out.next hb)
  have b5 := below_alloc w5 (.cells #[.int .i64 32, .int .i64 4] 56)
  have S5 := Lib.hid (S4.out.next b5)
  clear hb S3 b5
  go_wp2_with fail
  generalize w5.alloc (.cells #[.int .i64 32, .int .i64 4] 56) = w6 at *
  refine (sm_bytes S5).mono ?_
  rintro e w7 ⟨he, hb⟩
  obtain rfl : e = .returned (.int .i64 20) := he
  have S6 := Lib.hid (S5.out.next hb)
  clear hb S5
  go_wp2_with fail
  refine (sm_all S6).mono ?_
  rintro e w8 ⟨v', rfl, hr, hb, _⟩
  have S7 := Lib.hid (S6.out.next hb)
  obtain ⟨p, c, rfl, _, _⟩ := row_len hr
  clear hb hr S6
  go_wp2_with fail
  go_ret
  exact ⟨rfl, by first | exact S7.out.b | (rw [hN]; exact S7.out.b) | simpa [hN] using S7.out.b⟩

end Go.Proofs.Ytjlklkaaonfpdaa
