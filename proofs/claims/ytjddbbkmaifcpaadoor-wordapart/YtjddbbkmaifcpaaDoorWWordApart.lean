/-
  The walk of the statement WordApart: what is put into a field is there; another field, apart from it, has what it had.
-/
import Derived.Test.YtjddbbkmaifcpaaDoorApart1
import Derived.Test.YtjddbbkmaifcpaaDoorApart2
import Derived.Test.YtjddbbkmaifcpaaDoorApart3
import Derived.Test.YtjddbbkmaifcpaaDoorApart4
namespace Go.Proofs.YtjddbbkmaifcpaaDoor
open Go.RowKit

theorem apart_walk (m n : Nat) (a b c d : Int) (w : World) (hm : m < 18446744073709551616) (hR : RefAt w) :
    Calls Tryd.prog 5 #[.agg #[.int .u64 m, .int .u64 n, .int .i64 a, .int .i64 b, .int .i64 c, .int .i64 d]] w fun e w' => e = .returned (.bool true) ∧ Below w.heap.size w w' := by
  by_cases h : okF a b
  · by_cases h2 : okF c d
    · obtain ⟨i, j, rfl, rfl⟩ := okF_nat h
      obtain ⟨k, l, rfl, rfl⟩ := okF_nat h2
      by_cases h3 : n < 2 ^ j
      · by_cases h4 : i + j ≤ k ∨ k + l ≤ i
        · by_cases h5 : i + j ≤ k
          · exact apart_far1 m n i j k l w hm h h2 h3 h4 h5 hR
          · exact apart_far2 m n i j k l w hm h h2 h3 h4 h5 hR
        · exact apart_near m n i j k l w hm h h2 h3 h4 hR
      · exact apart_big m n i j k l w h h2 h3 hR
    · exact apart_no2 m n a b c d w h h2 hR
  · exact apart_no1 m n a b c d w h hR

end Go.Proofs.YtjddbbkmaifcpaaDoor
