/-
  Contracts of package span: beginsAt, Over, Get, Bytes, mayBe.
-/
import Derived.Test.YtjlklkaaonfpdaaSpanM
import Derived.Test.YtjlklkaaonfpdaaConf5
import Derived.BigQuiet
import Derived.Deep.QuietTactic
namespace Go.Proofs.Ytjlklkaaonfpdaa
open Go.RowKit Go.Sort

theorem inter_q {g : Nat} {v : Value} {l : List Iv} {w : World} (m : MapAt w g v l) :
    Calls Try.prog 55 #[.pointer (some ⟨g, 0, none⟩)] w fun e w' => e = .returned v ∧ w' = w := (inter_any g v l w m).mono fun _ _ ⟨h1, h2⟩ => ⟨h1, h2.symm⟩
theorem MapAt.dn {w : World} {g : Nat} {v : Value} {l : List Iv} (m : MapAt w g v l) (n : Nat) : MapAt (w.drewN n) g v l := ⟨m.head, m.row, m.ne, m.few⟩
theorem below_dn3 {B : Nat} {w w1 : World} (h : Below B w w1) (n : Nat) : Below B w (w1.drewN n) := ⟨h.os, h.tape, h.output, h.size, h.block⟩

set_option maxHeartbeats 1000000 in
theorem begins_at (g : Nat) (v : Value) (l : List Iv) (a : Int) (w : World) (m : Hid (MapAt w g v l)) (gd : Hid (Good l)) :
    Calls Try.prog 53 #[.pointer (some ⟨g, 0, none⟩), .int .i64 a] w fun e w' => e = .returned (.tuple #[.int .i64 (begN l a : Nat), .bool (getO l a).isSome]) ∧ Below w.heap.size w w' := by
  have b1 := below_alloc w (.cells #[.int .i64 a] 3)
  have M1 := Lib.hid (m.out.next b1)
  have cu1 := cell_new_sl w (.int .i64 a) 3
  have HS := Lib.hid (first_any 63 enters63 w.heap.size (.int .i64 a) (fun x => decide (a ≤ x.1)) g v l _ M1 cu1
    (fun W x hx hc => begins_any x.1 x.2 a w.heap.size W hc)
    (fun i j x y hij hx hy h => by
      by_cases e : i = j
      · subst e; rw [hx] at hy; cases hy; exact h
      · have h1 := gd.out.lt (show i < j by omega) hx hy
        have h2 := gd.out.ok x (List.mem_of_getElem? hx)
        simp at h ⊢; omega))
  have B1 := Lib.hid b1
  have HG := Lib.hid (get_at gd.out a)
  have HL := begN_le l a
  have few := m.out.few
  clear b1
  go_enter Try.func53, Try.ntmps53
  go_wp2_with fail
  generalize w.alloc (.cells #[.int .i64 a] 3) = w1 at *
  generalize hN : w.heap.size = N at *
  refine HS.out.mono ?_
  rintro e w3 ⟨rfl, hb⟩
  have M3 := Lib.hid (M1.out.next hb)
  have HE := Lib.hid (Below.trans B1.out (hb.mono (by rw [← hN]; exact B1.out.size)))
  have cu3 := (hb.cell (p := ⟨N, 0, none⟩) (World.block_lt_of_cell? _ _ cu1)).trans cu1
  clear hb M1 B1 HS cu1 m
  rw [show l.countP (fun x => !decide (a ≤ x.1)) = begN l a from rfl]
  have HQ := Lib.hid (fun n => inter_q (M3.out.dn n))
  rcases M3.out.row.cases with ⟨rfl, rfl⟩ | ⟨b, cap, cur, rfl, hB⟩
  · have d1 : decide ((begN [] a : Int) < 0) = false := by simp
    go_wp2_with fail
    go_quiet ((go_at_call 55; exact Calls.quiet_of_same (HQ.out _)))
    go_wp2
    go_ret2
    exact ⟨rfl, by first | exact below_dn3 HE.out _ | (rw [hN]; exact below_dn3 HE.out _)⟩
  · by_cases hlt : begN l a < l.length
    · obtain ⟨x, hx⟩ : ∃ x, l[begN l a]? = some x := ⟨l[begN l a], List.getElem?_eq_getElem hlt⟩
      have d1 : decide (begN l a < l.length) = true := by simpa using hlt
      have l2 : (begN l a : Int) < (l.length : Int) := by omega
      have c2 := (hB.two hx).1
      have HG2 : Hid (getO l a = if x.1 = a then some x else none) := by show _ = _; rw [HG.out, hx]
      clear hB HG hx
      by_cases hxa : x.1 = a
      · have d2 : (x.1 == a) = true := by simpa using hxa
        have HV : Hid ((getO l a).isSome = true) := by show _ = _; rw [HG2.out, if_pos hxa]; rfl
        clear hxa HG2
        go_wp2_with fail
        go_quiet ((go_at_call 55; exact Calls.quiet_of_same (HQ.out _)))
        go_wp2
        go_ret2
        exact ⟨by rw [HV.out]; first | done | rfl, by first | exact below_dn3 HE.out _ | (rw [hN]; exact below_dn3 HE.out _)⟩
      · have d2 : (x.1 == a) = false := by simpa using hxa
        have HV : Hid ((getO l a).isSome = false) := by show _ = _; rw [HG2.out, if_neg hxa]; rfl
        clear hxa HG2
        go_wp2_with fail
        go_quiet ((go_at_call 55; exact Calls.quiet_of_same (HQ.out _)))
        go_wp2
        go_ret2
        exact ⟨by rw [HV.out]; first | done | rfl, by first | exact below_dn3 HE.out _ | (rw [hN]; exact below_dn3 HE.out _)⟩
    · have d1 : decide (begN l a < l.length) = false := by simpa using hlt
      have HV : Hid ((getO l a).isSome = false) := by show _ = _; rw [HG.out, List.getElem?_eq_none (by omega)]; rfl
      clear hB HG hlt
      go_wp2_with fail
      go_quiet ((go_at_call 55; exact Calls.quiet_of_same (HQ.out _)))
      go_wp2
      go_ret2
      exact ⟨by rw [HV.out]; first | done | rfl, by first | exact below_dn3 HE.out _ | (rw [hN]; exact below_dn3 HE.out _)⟩

theorem may_any (x y : Int) (w : World) :
    Calls Try.prog 50 #[.agg #[.int .i64 x, .int .i64 y]] w fun e w' => e = .returned (.bool (mayI (x, y))) ∧ Below w.heap.size w w' := by
  have HB := Lib.hid (below_alloc w (.cells #[.int .i64 x, .int .i64 y] 56))
  have HM : Hid (mayI (x, y) = (decide (0 ≤ x) && decide (x ≤ 1099511627776) && decide (1 ≤ y) && decide (y ≤ 1099511627776))) := rfl
  by_cases h0 : 0 ≤ x
  · have d0 : decide (0 ≤ x) = true := by simpa using h0
    by_cases h1 : x ≤ 1099511627776
    · have d1 : decide (x ≤ 1099511627776) = true := by simpa using h1
      by_cases h2 : 1 ≤ y
      · have d2 : decide (1 ≤ y) = true := by simpa using h2
        have HV : Hid (mayI (x, y) = decide (y ≤ 1099511627776)) := by show _ = _; rw [HM.out, d0, d1, d2]; rfl
        go_enter Try.func50, Try.ntmps50
        go_wp2
        go_ret
        exact ⟨by rw [HV.out]; first | done | rfl, HB.out⟩
      · have d2 : decide (1 ≤ y) = false := by simpa using h2
        have HV : Hid (mayI (x, y) = false) := by show _ = _; rw [HM.out, d0, d1, d2]; rfl
        go_enter Try.func50, Try.ntmps50
        go_wp2
        go_ret
        exact ⟨by rw [HV.out]; first | done | rfl, HB.out⟩
    · have d1 : decide (x ≤ 1099511627776) = false := by simpa using h1
      have HV : Hid (mayI (x, y) = false) := by show _ = _; rw [HM.out, d0, d1]; rfl
      go_enter Try.func50, Try.ntmps50
      go_wp2
      go_ret
      exact ⟨by rw [HV.out]; first | done | rfl, HB.out⟩
  · have d0 : decide (0 ≤ x) = false := by simpa using h0
    have HV : Hid (mayI (x, y) = false) := by show _ = _; rw [HM.out, d0]; rfl
    go_enter Try.func50, Try.ntmps50
    go_wp2
    go_ret
    exact ⟨by rw [HV.out]; first | done | rfl, HB.out⟩

set_option maxHeartbeats 1000000 in
theorem over_any (g : Nat) (v : Value) (l : List Iv) (x y : Int) (w : World) (m : Hid (MapAt w g v l)) (gd : Hid (Good l)) (hx : -1099511627776 ≤ x) (hx2 : x ≤ 1099511627776) :
    Calls Try.prog 41 #[.pointer (some ⟨g, 0, none⟩), .agg #[.int .i64 x, .int .i64 y]] w fun e w' => e = .returned (.bool (overB l (x, y))) ∧ Below w.heap.size w w' := by
  have b1 := below_alloc w (.cells #[.int .i64 x, .int .i64 y] 56)
  have M1 := Lib.hid (m.out.next b1)
  have E1 := Lib.hid (heap_at w (.cells #[.int .i64 x, .int .i64 y] 56))
  have B1 := Lib.hid b1
  have HO := Lib.hid (over_at gd.out (x, y))
  have HL := endN_le l x
  clear b1
  go_enter Try.func41, Try.ntmps41
  go_wp2_with fail
  generalize w.alloc (.cells #[.int .i64 x, .int .i64 y] 56) = w1 at *
  generalize hN : w.heap.size = N at *
  refine (ends_behind g v l x _ M1 gd).mono ?_
  rintro e w3 ⟨rfl, hb⟩
  have M3 := Lib.hid (M1.out.next hb)
  have HE := Lib.hid (Below.trans B1.out (hb.mono (by rw [← hN]; exact B1.out.size)))
  have E3 := (hb.block N (Array.getElem?_eq_some_iff.1 E1.out).1).trans E1.out
  have x3 : w3.cell? ⟨N, 0, none⟩ = some (.int .i64 x) := by simp [World.cell?, E3]
  have y3 : w3.cell? ⟨N, 1, none⟩ = some (.int .i64 y) := by simp [World.cell?, E3]
  clear hb M1 B1 E1 E3 m
  by_cases hy : y < 1
  · have d0 : decide (y < 1) = true := by simpa using hy
    have HV : Hid (overB l (x, y) = false) := by show _ = _; rw [HO.out, decide_eq_false (by show ¬ 1 ≤ y; omega)]; rfl
    go_wp2_with fail
    go_ret
    exact ⟨by rw [HV.out]; first | done | rfl, by first | exact HE.out | (rw [hN]; exact HE.out)⟩
  · have d0 : decide (y < 1) = false := by simpa using hy
    go_wp2_with fail
    refine (inter_any g v l _ M3.out).mono ?_
    rintro e w' ⟨rfl, rfl⟩
    have HQ := Lib.hid (fun n => inter_q (M3.out.dn n))
    rcases M3.out.row.cases with ⟨rfl, rfl⟩ | ⟨b, cap, cur, rfl, hB⟩
    · have HV : Hid (overB [] (x, y) = false) := by show _ = _; rw [HO.out]; simp
      have d1 : ((endN [] x : Int) == 0) = true := by rfl
      go_wp2_with fail
      go_ret
      exact ⟨by rw [HV.out]; first | done | rfl, by first | exact HE.out | (rw [hN]; exact HE.out)⟩
    · by_cases hlt : endN l x < l.length
      · obtain ⟨z, hz⟩ : ∃ z, l[endN l x]? = some z := ⟨l[endN l x], List.getElem?_eq_getElem hlt⟩
        have d1 : ((endN l x : Int) == (l.length : Int)) = false := by simp; omega
        have d1' : (endN l x == l.length) = false := by simp; omega
        have l2 : (endN l x : Int) < (l.length : Int) := by omega
        have c2 := (hB.two hz).1
        have HV : Hid (overB l (x, y) = decide (z.1 - x < y)) := by show _ = _; rw [HO.out]; simp only [hz]; rw [decide_eq_true (show 1 ≤ y by omega)]; rfl
        have z1 := gd.out.ok z (List.mem_of_getElem? hz)
        have hwz : IntKind.i64.wrap (z.1 - x) = z.1 - x := by rw [IntKind.wrap_i64]; omega
        clear hB HO hz
        go_wp2_with fail
        go_quiet ((go_at_call 55; exact Calls.quiet_of_same (HQ.out _)))
        go_wp2
        go_ret
        exact ⟨by rw [HV.out]; first | done | rfl, by first | exact below_dn3 HE.out _ | (rw [hN]; exact below_dn3 HE.out _)⟩
      · have he : endN l x = l.length := by omega
        have d1 : ((endN l x : Int) == (l.length : Int)) = true := by simp [he]
        have d1' : (endN l x == l.length) = true := by simp [he]
        have HV : Hid (overB l (x, y) = false) := by show _ = _; rw [HO.out]; simp only [he]; simp
        clear hB HO he
        go_wp2_with fail
        go_ret
        exact ⟨by rw [HV.out]; first | done | rfl, by first | exact HE.out | (rw [hN]; exact HE.out)⟩

end Go.Proofs.Ytjlklkaaonfpdaa
