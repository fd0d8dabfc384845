/-
  Package ask's Check, and package live's things.
-/
import Derived.Test.YtchkgmknhndccaaDoorArena6
import Derived.Test.YtchkgmknhndccaaDoorMayNums
import Derived.Lib.QuietBelow
import Derived.Deep.CutRange
namespace Go.Proofs.YtchkgmknhndccaaDoor
open Go.RowKit Go.Sort

theorem lof_any (k : Int) (w : World) : Calls Tryd.prog 23 #[.int .i64 k] w fun e w' => e = .returned (.agg #[.int .i64 k, .int .i64 0]) ∧ Below w.heap.size w w' := by
  have B0 := Lib.hid (below_alloc w (.cells #[.int .i64 k, .int .i64 0] 35))
  go_enter Tryd.func23, Tryd.ntmps23
  go_wp2_with fail
  exact bodyPost_ret (v := .agg #[.int .i64 k, .int .i64 0]) (by simp [results, Tryd.results23, go_sem]) rfl ⟨rfl, B0.out⟩
theorem lrun_any (n : Int) (w : World) : Calls Tryd.prog 24 #[.int .i64 n] w fun e w' => e = .returned (.agg #[.int .i64 (-1), .int .i64 n]) ∧ Below w.heap.size w w' := by
  have B0 := Lib.hid (below_alloc w (.cells #[.int .i64 (-1), .int .i64 n] 35))
  go_enter Tryd.func24, Tryd.ntmps24
  go_wp2_with fail
  exact bodyPost_ret (v := .agg #[.int .i64 (-1), .int .i64 n]) (by simp [results, Tryd.results24, go_sem]) rfl ⟨rfl, B0.out⟩

/-- How many bytes a thing has. -/
def szT (S : Int) (len : Nat) (f : Nat → Int) (x y : Int) : Int := if x = -1 ∧ 1 ≤ y ∧ y ≤ S then y * 1024 else if y = 0 then szI len f x else 0
theorem szT_run {S : Int} {len : Nat} {f : Nat → Int} {y : Int} (h : 1 ≤ y) (h2 : y ≤ S) : szT S len f (-1) y = y * 1024 := by unfold szT; rw [if_pos ⟨rfl, h, h2⟩]
theorem szT_of {S : Int} {len : Nat} {f : Nat → Int} {k : Nat} (h : k < len) : szT S len f (k : Int) 0 = f k := by unfold szT; rw [if_neg (by omega), if_pos rfl, szI_nat h]
theorem szT_no {S : Int} {len : Nat} {f : Nat → Int} {x y : Int} (h1 : ¬ (x = -1 ∧ 1 ≤ y ∧ y ≤ S)) (h2 : ¬ (y = 0 ∧ 0 ≤ x ∧ x < len)) : szT S len f x y = 0 := by
  unfold szT
  rw [if_neg h1]
  split
  · rw [szI_out (by omega)]
  · rfl
theorem tsize_any (W S B T : Int) (ad : Option Addr) (len cap : Nat) (f : Nat → Int) (x y : Int) (w : World) (hr : Hid (RowI w ad len f)) (s1 : S ≤ 1000) :
    Calls Tryd.prog 22 #[.agg #[.int .i64 x, .int .i64 y], .agg #[.int .i64 W, .int .i64 S, .int .i64 B, .int .i64 T, .slice ad len cap]] w fun e w' => e = .returned (.int .i64 (szT S len f x y)) ∧ Below w.heap.size w w' := by
  have hb1 := below_alloc w (.cells #[.int .i64 x, .int .i64 y] 35)
  have hb2 := below_alloc (w.alloc (.cells #[.int .i64 x, .int .i64 y] 35)) (.cells #[.int .i64 W, .int .i64 S, .int .i64 B, .int .i64 T, .slice ad len cap] 24)
  have HB := Lib.hid (below_after hb1 hb2)
  have HR := Lib.hid (hr.out.next (below_after hb1 hb2))
  clear hb1 hb2
  by_cases hx : x = -1
  · subst hx
    by_cases h1 : 1 ≤ y
    · have d1 : decide (1 ≤ y) = true := by simpa using h1
      by_cases h2 : y ≤ S
      · have d2 : decide (y ≤ S) = true := by simpa using h2
        have HV := Lib.hid (szT_run (len := len) (f := f) h1 h2)
        go_enter Tryd.func22, Tryd.ntmps22
        go_wp2_with fail
        go_ret
        exact ⟨by rw [HV.out]; first | done | rfl, HB.out⟩
      · have d2 : decide (y ≤ S) = false := by simpa using h2
        have d3 : (y == 0) = false := by simp; omega
        have HV := Lib.hid (szT_no (S := S) (len := len) (f := f) (x := -1) (y := y) (by omega) (by omega))
        go_enter Tryd.func22, Tryd.ntmps22
        go_wp2_with fail
        go_ret
        exact ⟨by rw [HV.out]; first | done | rfl, HB.out⟩
    · have d1 : decide (1 ≤ y) = false := by simpa using h1
      have HV := Lib.hid (szT_no (S := S) (len := len) (f := f) (x := -1) (y := y) (by omega) (by omega))
      by_cases h2 : y = 0
      · subst h2
        go_enter Tryd.func22, Tryd.ntmps22
        go_wp2_with fail
        go_ret
        exact ⟨by rw [HV.out]; first | done | rfl, HB.out⟩
      · have d3 : (y == 0) = false := by simpa using h2
        go_enter Tryd.func22, Tryd.ntmps22
        go_wp2_with fail
        go_ret
        exact ⟨by rw [HV.out]; first | done | rfl, HB.out⟩
  · have e1 : (x == -1) = false := by simpa using hx
    by_cases hy : y = 0
    · subst hy
      by_cases h1 : 0 ≤ x
      · by_cases h2 : x < len
        · obtain ⟨n, rfl⟩ := Int.eq_ofNat_of_zero_le h1
          have hn : n < len := by omega
          have HV := Lib.hid (szT_of (S := S) (f := f) hn)
          obtain ⟨b, off, rfl, hc⟩ := HR.out.at hn
          generalize f n = z at *
          go_enter Tryd.func22, Tryd.ntmps22
          go_wp2_with fail
          go_ret
          exact ⟨by rw [HV.out]; first | done | rfl, HB.out⟩
        · have d1 : decide (0 ≤ x) = true := by simpa using h1
          have d2 : decide (x < (len : Int)) = false := by simpa using h2
          have HV := Lib.hid (szT_no (S := S) (len := len) (f := f) (x := x) (y := 0) (by omega) (by omega))
          go_enter Tryd.func22, Tryd.ntmps22
          go_wp2_with fail
          go_ret
          exact ⟨by rw [HV.out]; first | done | rfl, HB.out⟩
      · have d1 : decide (0 ≤ x) = false := by simpa using h1
        have HV := Lib.hid (szT_no (S := S) (len := len) (f := f) (x := x) (y := 0) (by omega) (by omega))
        go_enter Tryd.func22, Tryd.ntmps22
        go_wp2_with fail
        go_ret
        exact ⟨by rw [HV.out]; first | done | rfl, HB.out⟩
    · have d1 : (y == 0) = false := by simpa using hy
      have HV := Lib.hid (szT_no (S := S) (len := len) (f := f) (x := x) (y := y) (by omega) (by omega))
      go_enter Tryd.func22, Tryd.ntmps22
      go_wp2_with fail
      go_ret
      exact ⟨by rw [HV.out]; first | done | rfl, HB.out⟩

/-- What a worker has to take for a size. -/
inductive ThIs (S : Int) (len : Nat) (f : Nat → Int) (a : Int) : Int → Int → Int → Prop
  | small (h : a < 1) : ThIs S len f a 0 0 3
  | cls (i : Nat) (h : 1 ≤ a) (hi : i < len) (h2 : a ≤ f i) (h3 : Hid (∀ j, j < i → f j < a)) : ThIs S len f a (i : Int) 0 0
  | run (q : Int) (h : 1 ≤ a) (h3 : Hid (∀ j, j < len → f j < a)) (h4 : a ≤ 1024 * S) (hq : Hid (q = (a - 1) / 1024 + 1)) (q1 : 1 ≤ q) (q2 : q ≤ S) : ThIs S len f a (-1) q 0
  | big (h : 1 ≤ a) (h3 : Hid (∀ j, j < len → f j < a)) (h4 : 1024 * S < a) : ThIs S len f a 0 0 3
theorem th_ex (S : Int) (len : Nat) (f : Nat → Int) (a : Int) : ∃ x y e, ThIs S len f a x y e := by
  by_cases h : a < 1
  · exact ⟨_, _, _, .small h⟩
  · rcases class_case f a len with hno | ⟨i, hi, h2, h3⟩
    · by_cases h4 : a ≤ 1024 * S
      · exact ⟨_, _, _, .run _ (by omega) (Lib.hid hno) h4 (Lib.hid rfl) (by omega) (by omega)⟩
      · exact ⟨_, _, _, .big (by omega) (Lib.hid hno) (by omega)⟩
    · exact ⟨_, _, _, .cls i (by omega) hi h2 (Lib.hid h3)⟩
set_option maxHeartbeats 2000000 in
theorem thingOf_any (W S B T : Int) (ad : Option Addr) (len cap : Nat) (f : Nat → Int) (a x y e0 : Int) (w : World) (hr : Hid (RowI w ad len f)) (hl : len < 9223372036854775808) (s0 : 0 ≤ S) (s1 : S ≤ 1000) (h : ThIs S len f a x y e0) :
    Calls Tryd.prog 46 #[.agg #[.int .i64 W, .int .i64 S, .int .i64 B, .int .i64 T, .slice ad len cap], .int .i64 a] w fun e w' => e = .returned (.tuple #[.agg #[.int .i64 x, .int .i64 y], .int .i64 e0]) ∧ Below w.heap.size w w' := by
  have hb1 := below_alloc w (.cells #[.int .i64 W, .int .i64 S, .int .i64 B, .int .i64 T, .slice ad len cap] 24)
  have hb2 := below_alloc (w.alloc (.cells #[.int .i64 W, .int .i64 S, .int .i64 B, .int .i64 T, .slice ad len cap] 24)) (.cells #[.int .i64 0, .int .i64 0] 35)
  have HB := Lib.hid (below_after hb1 hb2)
  have HR := Lib.hid (hr.out.next (below_after hb1 hb2))
  have C0 := Lib.hid (cfg_next (cfg_new w W S B T (.slice ad len cap)) hb2)
  have D0' := Two5.new (w.alloc (.cells #[.int .i64 W, .int .i64 S, .int .i64 B, .int .i64 T, .slice ad len cap] 24)) 35 0 0
  rw [show (w.alloc (.cells #[.int .i64 W, .int .i64 S, .int .i64 B, .int .i64 T, .slice ad len cap] 24)).heap.size = w.heap.size + 1 from by simp] at D0'
  have D0 := Lib.hid D0'
  clear hb1 hb2 D0'
  go_enter Tryd.func46, Tryd.ntmps46
  go_wp2_with fail
  generalize (w.alloc (.cells #[.int .i64 W, .int .i64 S, .int .i64 B, .int .i64 T, .slice ad len cap] 24)).alloc (.cells #[.int .i64 0, .int .i64 0] 35) = w0 at *
  generalize hN : w.heap.size = N at *
  cases h with
  | small h =>
    refine (class_small W S B T _ a _ h).mono ?_
    rintro e w1 ⟨rfl, hb⟩
    have HB1 : Hid (Below N w w1) := HB.out.trans (hb.mono (Nat.le_of_lt (cfg_lt C0.out)))
    have C1 := Lib.hid (cfg_next C0.out hb)
    have D1 := Lib.hid (D0.out.next hb)
    have HR1 := Lib.hid (HR.out.next hb)
    clear hb
    obtain ⟨c0, c1, c2, c3, c4⟩ := cfg_cells C1.out
    obtain ⟨b0, b1⟩ := D1.out.cells
    have z0 := D1.out.fz 0
    have z1 := D1.out.fz 1
    clear c0 c1 c2 c3 c4 b0 b1 z0 z1
    obtain ⟨c0, c1, c2, c3, c4⟩ := cfg_cells C1.out
    go_wp2_with fail
    refine (run_small W S B T ad len cap a _ h).mono ?_
    rintro e w2 ⟨rfl, hb⟩
    have HB2 : Hid (Below N w w2) := HB1.out.trans (hb.mono (Nat.le_of_lt (cfg_lt C1.out)))
    have C2 := Lib.hid (cfg_next C1.out hb)
    have D2 := Lib.hid (D1.out.next hb)
    have HR2 := Lib.hid (HR1.out.next hb)
    clear hb
    clear c0 c1 c2 c3 c4
    obtain ⟨c0, c1, c2, c3, c4⟩ := cfg_cells C2.out
    obtain ⟨b0, b1⟩ := D2.out.cells
    have z0 := D2.out.fz 0
    have z1 := D2.out.fz 1
    obtain ⟨r0, r1⟩ := (D2.out.set 0 0).cells
    go_wp2_with fail
    exact bodyPost_ret (v := .tuple #[.agg #[.int .i64 0, .int .i64 0], .int .i64 3]) (by simp [results, Tryd.results46, go_sem, r0, r1]) rfl ⟨rfl, by first | exact (HB2.out.setCell (Nat.le_succ _) _).setCell (by simp; omega) _ | (rw [hN]; exact (HB2.out.setCell (Nat.le_succ _) _).setCell (Nat.le_succ _) _)⟩
  | cls i h hi h2 h3 =>
    refine (class_yes W S B T ad len cap f a i _ HR hl h hi h2 h3).mono ?_
    rintro e w1 ⟨rfl, hb⟩
    have HB1 : Hid (Below N w w1) := HB.out.trans (hb.mono (Nat.le_of_lt (cfg_lt C0.out)))
    have C1 := Lib.hid (cfg_next C0.out hb)
    have D1 := Lib.hid (D0.out.next hb)
    have HR1 := Lib.hid (HR.out.next hb)
    clear hb
    obtain ⟨c0, c1, c2, c3, c4⟩ := cfg_cells C1.out
    obtain ⟨b0, b1⟩ := D1.out.cells
    have z0 := D1.out.fz 0
    have z1 := D1.out.fz 1
    go_wp2_with fail
    refine (lof_any i _).mono ?_
    rintro e w2 ⟨rfl, hb⟩
    have HB2 : Hid (Below N w w2) := HB1.out.trans (hb.mono (Nat.le_of_lt (cfg_lt C1.out)))
    have C2 := Lib.hid (cfg_next C1.out hb)
    have D2 := Lib.hid (D1.out.next hb)
    have HR2 := Lib.hid (HR1.out.next hb)
    clear hb
    clear c0 c1 c2 c3 c4 b0 b1 z0 z1
    obtain ⟨c0, c1, c2, c3, c4⟩ := cfg_cells C2.out
    obtain ⟨b0, b1⟩ := D2.out.cells
    have z0 := D2.out.fz 0
    have z1 := D2.out.fz 1
    obtain ⟨r0, r1⟩ := (D2.out.set (i : Int) 0).cells
    go_wp2_with fail
    exact bodyPost_ret (v := .tuple #[.agg #[.int .i64 (i : Int), .int .i64 0], .int .i64 0]) (by simp [results, Tryd.results46, go_sem, r0, r1]) rfl ⟨rfl, by first | exact (HB2.out.setCell (Nat.le_succ _) _).setCell (by simp; omega) _ | (rw [hN]; exact (HB2.out.setCell (Nat.le_succ _) _).setCell (Nat.le_succ _) _)⟩
  | run _ h h3 h4 hq q1 q2 =>
    refine (class_no W S B T ad len cap f a _ HR hl h h3).mono ?_
    rintro e w1 ⟨rfl, hb⟩
    have HB1 : Hid (Below N w w1) := HB.out.trans (hb.mono (Nat.le_of_lt (cfg_lt C0.out)))
    have C1 := Lib.hid (cfg_next C0.out hb)
    have D1 := Lib.hid (D0.out.next hb)
    have HR1 := Lib.hid (HR.out.next hb)
    clear hb
    obtain ⟨c0, c1, c2, c3, c4⟩ := cfg_cells C1.out
    obtain ⟨b0, b1⟩ := D1.out.cells
    have z0 := D1.out.fz 0
    have z1 := D1.out.fz 1
    have RN := Lib.hid fun w hr => run_no W S B T ad len cap f a w hr hl h h3 s0 s1
    have hq' : runI S a = y := by rw [hq.out]; unfold runI; rw [if_neg (by omega)]
    have hq2 : 0 < y := by omega
    rw [hq'] at RN
    clear hq'
    go_wp2_with fail
    refine (RN.out _ HR1).mono ?_
    rintro e w2 ⟨rfl, hb⟩
    have HB2 : Hid (Below N w w2) := HB1.out.trans (hb.mono (Nat.le_of_lt (cfg_lt C1.out)))
    have C2 := Lib.hid (cfg_next C1.out hb)
    have D2 := Lib.hid (D1.out.next hb)
    have HR2 := Lib.hid (HR1.out.next hb)
    clear hb
    clear c0 c1 c2 c3 c4 b0 b1 z0 z1
    obtain ⟨c0, c1, c2, c3, c4⟩ := cfg_cells C2.out
    obtain ⟨b0, b1⟩ := D2.out.cells
    have z0 := D2.out.fz 0
    have z1 := D2.out.fz 1
    go_wp2_with fail
    refine (lrun_any y _).mono ?_
    rintro e w3 ⟨rfl, hb⟩
    have HB3 : Hid (Below N w w3) := HB2.out.trans (hb.mono (Nat.le_of_lt (cfg_lt C2.out)))
    have C3 := Lib.hid (cfg_next C2.out hb)
    have D3 := Lib.hid (D2.out.next hb)
    have HR3 := Lib.hid (HR2.out.next hb)
    clear hb
    clear c0 c1 c2 c3 c4 b0 b1 z0 z1
    obtain ⟨c0, c1, c2, c3, c4⟩ := cfg_cells C3.out
    obtain ⟨b0, b1⟩ := D3.out.cells
    have z0 := D3.out.fz 0
    have z1 := D3.out.fz 1
    obtain ⟨r0, r1⟩ := (D3.out.set (-1) y).cells
    go_wp2_with fail
    exact bodyPost_ret (v := .tuple #[.agg #[.int .i64 (-1), .int .i64 y], .int .i64 0]) (by simp [results, Tryd.results46, go_sem, r0, r1]) rfl ⟨rfl, by first | exact (HB3.out.setCell (Nat.le_succ _) _).setCell (by simp; omega) _ | (rw [hN]; exact (HB3.out.setCell (Nat.le_succ _) _).setCell (Nat.le_succ _) _)⟩
  | big h h3 h4 =>
    refine (class_no W S B T ad len cap f a _ HR hl h h3).mono ?_
    rintro e w1 ⟨rfl, hb⟩
    have HB1 : Hid (Below N w w1) := HB.out.trans (hb.mono (Nat.le_of_lt (cfg_lt C0.out)))
    have C1 := Lib.hid (cfg_next C0.out hb)
    have D1 := Lib.hid (D0.out.next hb)
    have HR1 := Lib.hid (HR.out.next hb)
    clear hb
    obtain ⟨c0, c1, c2, c3, c4⟩ := cfg_cells C1.out
    obtain ⟨b0, b1⟩ := D1.out.cells
    have z0 := D1.out.fz 0
    have z1 := D1.out.fz 1
    have RN := Lib.hid fun w hr => run_no W S B T ad len cap f a w hr hl h h3 s0 s1
    have hq : runI S a = 0 := by unfold runI; rw [if_pos (by omega)]
    rw [hq] at RN
    go_wp2_with fail
    refine (RN.out _ HR1).mono ?_
    rintro e w2 ⟨rfl, hb⟩
    have HB2 : Hid (Below N w w2) := HB1.out.trans (hb.mono (Nat.le_of_lt (cfg_lt C1.out)))
    have C2 := Lib.hid (cfg_next C1.out hb)
    have D2 := Lib.hid (D1.out.next hb)
    have HR2 := Lib.hid (HR1.out.next hb)
    clear hb
    clear c0 c1 c2 c3 c4 b0 b1 z0 z1
    obtain ⟨c0, c1, c2, c3, c4⟩ := cfg_cells C2.out
    obtain ⟨b0, b1⟩ := D2.out.cells
    have z0 := D2.out.fz 0
    have z1 := D2.out.fz 1
    obtain ⟨r0, r1⟩ := (D2.out.set 0 0).cells
    go_wp2_with fail
    exact bodyPost_ret (v := .tuple #[.agg #[.int .i64 0, .int .i64 0], .int .i64 3]) (by simp [results, Tryd.results46, go_sem, r0, r1]) rfl ⟨rfl, by first | exact (HB2.out.setCell (Nat.le_succ _) _).setCell (by simp; omega) _ | (rw [hN]; exact (HB2.out.setCell (Nat.le_succ _) _).setCell (Nat.le_succ _) _)⟩
/-- Does a grain begin at an address? -/
def grB (S a : Int) : Bool := decide (65536 ≤ a) && decide (a < 65536 + 1024 * S) && decide (a % 16 = 0)
theorem checkAddress_yes (W S B T : Int) (ad : Option Addr) (len cap : Nat) (a : Int) (w : World) (s0 : 0 ≤ S) (s1 : S ≤ 1000) (h0 : 65536 ≤ a) (h1 : a < 65536 + 1024 * S) (h2 : Hid (a % 16 = 0)) :
    Calls Tryd.prog 47 #[.agg #[.int .i64 W, .int .i64 S, .int .i64 B, .int .i64 T, .slice ad len cap], .int .i64 a] w fun e w' => e = .returned (.int .i64 0) ∧ Below w.heap.size w w' := by
  have HB := Lib.hid (below_alloc w (.cells #[.int .i64 W, .int .i64 S, .int .i64 B, .int .i64 T, .slice ad len cap] 24))
  go_enter Tryd.func47, Tryd.ntmps47
  go_wp2_with fail
  refine (place_yes _ _ _ _ _ _ _ s0 s1 h0 h1 h2.out).mono ?_
  rintro e w1 ⟨rfl, hb⟩
  have HB2 := Lib.hid (below_after HB.out hb)
  clear hb
  go_wp2_with fail
  go_ret
  exact ⟨rfl, HB2.out⟩
theorem checkAddress_no (W S B T : Int) (ad : Option Addr) (len cap : Nat) (a : Int) (w : World) (s0 : 0 ≤ S) (s1 : S ≤ 1000) (h : Hid (a < 65536 ∨ 65536 + 1024 * S ≤ a ∨ a % 16 ≠ 0)) :
    Calls Tryd.prog 47 #[.agg #[.int .i64 W, .int .i64 S, .int .i64 B, .int .i64 T, .slice ad len cap], .int .i64 a] w fun e w' => e = .returned (.int .i64 4) ∧ Below w.heap.size w w' := by
  have HB := Lib.hid (below_alloc w (.cells #[.int .i64 W, .int .i64 S, .int .i64 B, .int .i64 T, .slice ad len cap] 24))
  go_enter Tryd.func47, Tryd.ntmps47
  go_wp2_with fail
  refine (place_no _ _ _ _ _ _ _ s0 s1 h.out).mono ?_
  rintro e w1 ⟨rfl, hb⟩
  have HB2 := Lib.hid (below_after HB.out hb)
  clear hb
  go_wp2_with fail
  go_ret
  exact ⟨rfl, HB2.out⟩
set_option maxHeartbeats 2000000 in
theorem check_alloc (W S B T : Int) (ad : Option Addr) (len cap : Nat) (f : Nat → Int) (a x y e0 : Int) (w : World) (hr : Hid (RowI w ad len f)) (hl : len < 9223372036854775808) (s0 : 0 ≤ S) (s1 : S ≤ 1000) (h : ThIs S len f a x y e0) :
    Calls Tryd.prog 31 #[.agg #[.int .i64 W, .int .i64 S, .int .i64 B, .int .i64 T, .slice ad len cap], .agg #[.int .i64 1, .int .i64 a]] w fun e w' => e = .returned (.tuple #[.agg #[.int .i64 x, .int .i64 y], .int .i64 e0]) ∧ Below w.heap.size w w' := by
  have hb1 := below_alloc w (.cells #[.int .i64 W, .int .i64 S, .int .i64 B, .int .i64 T, .slice ad len cap] 24)
  have hb2 := below_alloc (w.alloc (.cells #[.int .i64 W, .int .i64 S, .int .i64 B, .int .i64 T, .slice ad len cap] 24)) (.cells #[.int .i64 1, .int .i64 a] 78)
  have hb3 := below_alloc ((w.alloc (.cells #[.int .i64 W, .int .i64 S, .int .i64 B, .int .i64 T, .slice ad len cap] 24)).alloc (.cells #[.int .i64 1, .int .i64 a] 78)) (.cells #[.int .i64 0, .int .i64 0] 35)
  have HB := Lib.hid (below_after (below_after hb1 hb2) hb3)
  have HR := Lib.hid (hr.out.next (below_after (below_after hb1 hb2) hb3))
  have C0 := Lib.hid (cfg_next (cfg_next (cfg_new w W S B T (.slice ad len cap)) hb2) hb3)
  have D0' := Two5.new ((w.alloc (.cells #[.int .i64 W, .int .i64 S, .int .i64 B, .int .i64 T, .slice ad len cap] 24)).alloc (.cells #[.int .i64 1, .int .i64 a] 78)) 35 0 0
  rw [show ((w.alloc (.cells #[.int .i64 W, .int .i64 S, .int .i64 B, .int .i64 T, .slice ad len cap] 24)).alloc (.cells #[.int .i64 1, .int .i64 a] 78)).heap.size = w.heap.size + 2 from by simp] at D0'
  have D0 := Lib.hid D0'
  clear hb1 hb2 hb3 D0'
  go_enter Tryd.func31, Tryd.ntmps31
  go_wp2_with fail
  generalize ((w.alloc (.cells #[.int .i64 W, .int .i64 S, .int .i64 B, .int .i64 T, .slice ad len cap] 24)).alloc (.cells #[.int .i64 1, .int .i64 a] 78)).alloc (.cells #[.int .i64 0, .int .i64 0] 35) = w0 at *
  generalize hN : w.heap.size = N at *
  refine (thingOf_any W S B T ad len cap f a x y e0 _ HR hl s0 s1 h).mono ?_
  rintro e w1 ⟨rfl, hb⟩
  have HB1 : Hid (Below N w w1) := HB.out.trans (hb.mono (Nat.le_of_lt (cfg_lt C0.out)))
  have D1 := Lib.hid (D0.out.next hb)
  clear hb
  obtain ⟨b0, b1⟩ := D1.out.cells
  have z0 := D1.out.fz 0
  have z1 := D1.out.fz 1
  obtain ⟨r0, r1⟩ := (D1.out.set x y).cells
  go_wp2_with fail
  exact bodyPost_ret (v := .tuple #[.agg #[.int .i64 x, .int .i64 y], .int .i64 e0]) (by simp [results, Tryd.results31, go_sem, r0, r1]) rfl ⟨rfl, by first | exact (HB1.out.setCell (Nat.le_add_right _ 2) _).setCell (Nat.le_add_right _ 2) _ | (rw [hN]; exact (HB1.out.setCell (Nat.le_add_right _ 2) _).setCell (Nat.le_add_right _ 2) _)⟩
set_option maxHeartbeats 2000000 in
theorem check_grain2 (W S B T : Int) (ad : Option Addr) (len cap : Nat) (a : Int) (w : World) (s0 : 0 ≤ S) (s1 : S ≤ 1000) (h0 : 65536 ≤ a) (h1 : a < 65536 + 1024 * S) (h2 : Hid (a % 16 = 0)) :
    Calls Tryd.prog 31 #[.agg #[.int .i64 W, .int .i64 S, .int .i64 B, .int .i64 T, .slice ad len cap], .agg #[.int .i64 2, .int .i64 a]] w fun e w' => e = .returned (.tuple #[.agg #[.int .i64 0, .int .i64 0], .int .i64 0]) ∧ Below w.heap.size w w' := by
  have hb1 := below_alloc w (.cells #[.int .i64 W, .int .i64 S, .int .i64 B, .int .i64 T, .slice ad len cap] 24)
  have hb2 := below_alloc (w.alloc (.cells #[.int .i64 W, .int .i64 S, .int .i64 B, .int .i64 T, .slice ad len cap] 24)) (.cells #[.int .i64 2, .int .i64 a] 78)
  have hb3 := below_alloc ((w.alloc (.cells #[.int .i64 W, .int .i64 S, .int .i64 B, .int .i64 T, .slice ad len cap] 24)).alloc (.cells #[.int .i64 2, .int .i64 a] 78)) (.cells #[.int .i64 0, .int .i64 0] 35)
  have HB := Lib.hid (below_after (below_after hb1 hb2) hb3)
  have C0 := Lib.hid (cfg_next (cfg_next (cfg_new w W S B T (.slice ad len cap)) hb2) hb3)
  have D0' := Two5.new ((w.alloc (.cells #[.int .i64 W, .int .i64 S, .int .i64 B, .int .i64 T, .slice ad len cap] 24)).alloc (.cells #[.int .i64 2, .int .i64 a] 78)) 35 0 0
  rw [show ((w.alloc (.cells #[.int .i64 W, .int .i64 S, .int .i64 B, .int .i64 T, .slice ad len cap] 24)).alloc (.cells #[.int .i64 2, .int .i64 a] 78)).heap.size = w.heap.size + 2 from by simp] at D0'
  have D0 := Lib.hid D0'
  clear hb1 hb2 hb3 D0'
  go_enter Tryd.func31, Tryd.ntmps31
  go_wp2_with fail
  generalize ((w.alloc (.cells #[.int .i64 W, .int .i64 S, .int .i64 B, .int .i64 T, .slice ad len cap] 24)).alloc (.cells #[.int .i64 2, .int .i64 a] 78)).alloc (.cells #[.int .i64 0, .int .i64 0] 35) = w0 at *
  generalize hN : w.heap.size = N at *
  refine (checkAddress_yes W S B T ad len cap a _ s0 s1 h0 h1 h2).mono ?_
  rintro e w1 ⟨rfl, hb⟩
  have HB1 : Hid (Below N w w1) := HB.out.trans (hb.mono (Nat.le_of_lt (cfg_lt C0.out)))
  have D1 := Lib.hid (D0.out.next hb)
  clear hb
  obtain ⟨b0, b1⟩ := D1.out.cells
  have z0 := D1.out.fz 0
  have z1 := D1.out.fz 1
  obtain ⟨r0, r1⟩ := (D1.out.set 0 0).cells
  go_wp2_with fail
  exact bodyPost_ret (v := .tuple #[.agg #[.int .i64 0, .int .i64 0], .int .i64 0]) (by simp [results, Tryd.results31, go_sem, r0, r1]) rfl ⟨rfl, by first | exact (HB1.out.setCell (Nat.le_add_right _ 2) _).setCell (Nat.le_add_right _ 2) _ | (rw [hN]; exact (HB1.out.setCell (Nat.le_add_right _ 2) _).setCell (Nat.le_add_right _ 2) _)⟩
set_option maxHeartbeats 2000000 in
theorem check_out2 (W S B T : Int) (ad : Option Addr) (len cap : Nat) (a : Int) (w : World) (s0 : 0 ≤ S) (s1 : S ≤ 1000) (h : Hid (a < 65536 ∨ 65536 + 1024 * S ≤ a ∨ a % 16 ≠ 0)) :
    Calls Tryd.prog 31 #[.agg #[.int .i64 W, .int .i64 S, .int .i64 B, .int .i64 T, .slice ad len cap], .agg #[.int .i64 2, .int .i64 a]] w fun e w' => e = .returned (.tuple #[.agg #[.int .i64 0, .int .i64 0], .int .i64 4]) ∧ Below w.heap.size w w' := by
  have hb1 := below_alloc w (.cells #[.int .i64 W, .int .i64 S, .int .i64 B, .int .i64 T, .slice ad len cap] 24)
  have hb2 := below_alloc (w.alloc (.cells #[.int .i64 W, .int .i64 S, .int .i64 B, .int .i64 T, .slice ad len cap] 24)) (.cells #[.int .i64 2, .int .i64 a] 78)
  have hb3 := below_alloc ((w.alloc (.cells #[.int .i64 W, .int .i64 S, .int .i64 B, .int .i64 T, .slice ad len cap] 24)).alloc (.cells #[.int .i64 2, .int .i64 a] 78)) (.cells #[.int .i64 0, .int .i64 0] 35)
  have HB := Lib.hid (below_after (below_after hb1 hb2) hb3)
  have C0 := Lib.hid (cfg_next (cfg_next (cfg_new w W S B T (.slice ad len cap)) hb2) hb3)
  have D0' := Two5.new ((w.alloc (.cells #[.int .i64 W, .int .i64 S, .int .i64 B, .int .i64 T, .slice ad len cap] 24)).alloc (.cells #[.int .i64 2, .int .i64 a] 78)) 35 0 0
  rw [show ((w.alloc (.cells #[.int .i64 W, .int .i64 S, .int .i64 B, .int .i64 T, .slice ad len cap] 24)).alloc (.cells #[.int .i64 2, .int .i64 a] 78)).heap.size = w.heap.size + 2 from by simp] at D0'
  have D0 := Lib.hid D0'
  clear hb1 hb2 hb3 D0'
  go_enter Tryd.func31, Tryd.ntmps31
  go_wp2_with fail
  generalize ((w.alloc (.cells #[.int .i64 W, .int .i64 S, .int .i64 B, .int .i64 T, .slice ad len cap] 24)).alloc (.cells #[.int .i64 2, .int .i64 a] 78)).alloc (.cells #[.int .i64 0, .int .i64 0] 35) = w0 at *
  generalize hN : w.heap.size = N at *
  refine (checkAddress_no W S B T ad len cap a _ s0 s1 h).mono ?_
  rintro e w1 ⟨rfl, hb⟩
  have HB1 : Hid (Below N w w1) := HB.out.trans (hb.mono (Nat.le_of_lt (cfg_lt C0.out)))
  have D1 := Lib.hid (D0.out.next hb)
  clear hb
  obtain ⟨b0, b1⟩ := D1.out.cells
  have z0 := D1.out.fz 0
  have z1 := D1.out.fz 1
  obtain ⟨r0, r1⟩ := (D1.out.set 0 0).cells
  go_wp2_with fail
  exact bodyPost_ret (v := .tuple #[.agg #[.int .i64 0, .int .i64 0], .int .i64 4]) (by simp [results, Tryd.results31, go_sem, r0, r1]) rfl ⟨rfl, by first | exact (HB1.out.setCell (Nat.le_add_right _ 2) _).setCell (Nat.le_add_right _ 2) _ | (rw [hN]; exact (HB1.out.setCell (Nat.le_add_right _ 2) _).setCell (Nat.le_add_right _ 2) _)⟩
set_option maxHeartbeats 2000000 in
theorem check_grain3 (W S B T : Int) (ad : Option Addr) (len cap : Nat) (a : Int) (w : World) (s0 : 0 ≤ S) (s1 : S ≤ 1000) (h0 : 65536 ≤ a) (h1 : a < 65536 + 1024 * S) (h2 : Hid (a % 16 = 0)) :
    Calls Tryd.prog 31 #[.agg #[.int .i64 W, .int .i64 S, .int .i64 B, .int .i64 T, .slice ad len cap], .agg #[.int .i64 3, .int .i64 a]] w fun e w' => e = .returned (.tuple #[.agg #[.int .i64 0, .int .i64 0], .int .i64 0]) ∧ Below w.heap.size w w' := by
  have hb1 := below_alloc w (.cells #[.int .i64 W, .int .i64 S, .int .i64 B, .int .i64 T, .slice ad len cap] 24)
  have hb2 := below_alloc (w.alloc (.cells #[.int .i64 W, .int .i64 S, .int .i64 B, .int .i64 T, .slice ad len cap] 24)) (.cells #[.int .i64 3, .int .i64 a] 78)
  have hb3 := below_alloc ((w.alloc (.cells #[.int .i64 W, .int .i64 S, .int .i64 B, .int .i64 T, .slice ad len cap] 24)).alloc (.cells #[.int .i64 3, .int .i64 a] 78)) (.cells #[.int .i64 0, .int .i64 0] 35)
  have HB := Lib.hid (below_after (below_after hb1 hb2) hb3)
  have C0 := Lib.hid (cfg_next (cfg_next (cfg_new w W S B T (.slice ad len cap)) hb2) hb3)
  have D0' := Two5.new ((w.alloc (.cells #[.int .i64 W, .int .i64 S, .int .i64 B, .int .i64 T, .slice ad len cap] 24)).alloc (.cells #[.int .i64 3, .int .i64 a] 78)) 35 0 0
  rw [show ((w.alloc (.cells #[.int .i64 W, .int .i64 S, .int .i64 B, .int .i64 T, .slice ad len cap] 24)).alloc (.cells #[.int .i64 3, .int .i64 a] 78)).heap.size = w.heap.size + 2 from by simp] at D0'
  have D0 := Lib.hid D0'
  clear hb1 hb2 hb3 D0'
  go_enter Tryd.func31, Tryd.ntmps31
  go_wp2_with fail
  generalize ((w.alloc (.cells #[.int .i64 W, .int .i64 S, .int .i64 B, .int .i64 T, .slice ad len cap] 24)).alloc (.cells #[.int .i64 3, .int .i64 a] 78)).alloc (.cells #[.int .i64 0, .int .i64 0] 35) = w0 at *
  generalize hN : w.heap.size = N at *
  refine (checkAddress_yes W S B T ad len cap a _ s0 s1 h0 h1 h2).mono ?_
  rintro e w1 ⟨rfl, hb⟩
  have HB1 : Hid (Below N w w1) := HB.out.trans (hb.mono (Nat.le_of_lt (cfg_lt C0.out)))
  have D1 := Lib.hid (D0.out.next hb)
  clear hb
  obtain ⟨b0, b1⟩ := D1.out.cells
  have z0 := D1.out.fz 0
  have z1 := D1.out.fz 1
  obtain ⟨r0, r1⟩ := (D1.out.set 0 0).cells
  go_wp2_with fail
  exact bodyPost_ret (v := .tuple #[.agg #[.int .i64 0, .int .i64 0], .int .i64 0]) (by simp [results, Tryd.results31, go_sem, r0, r1]) rfl ⟨rfl, by first | exact (HB1.out.setCell (Nat.le_add_right _ 2) _).setCell (Nat.le_add_right _ 2) _ | (rw [hN]; exact (HB1.out.setCell (Nat.le_add_right _ 2) _).setCell (Nat.le_add_right _ 2) _)⟩
set_option maxHeartbeats 2000000 in
theorem check_out3 (W S B T : Int) (ad : Option Addr) (len cap : Nat) (a : Int) (w : World) (s0 : 0 ≤ S) (s1 : S ≤ 1000) (h : Hid (a < 65536 ∨ 65536 + 1024 * S ≤ a ∨ a % 16 ≠ 0)) :
    Calls Tryd.prog 31 #[.agg #[.int .i64 W, .int .i64 S, .int .i64 B, .int .i64 T, .slice ad len cap], .agg #[.int .i64 3, .int .i64 a]] w fun e w' => e = .returned (.tuple #[.agg #[.int .i64 0, .int .i64 0], .int .i64 4]) ∧ Below w.heap.size w w' := by
  have hb1 := below_alloc w (.cells #[.int .i64 W, .int .i64 S, .int .i64 B, .int .i64 T, .slice ad len cap] 24)
  have hb2 := below_alloc (w.alloc (.cells #[.int .i64 W, .int .i64 S, .int .i64 B, .int .i64 T, .slice ad len cap] 24)) (.cells #[.int .i64 3, .int .i64 a] 78)
  have hb3 := below_alloc ((w.alloc (.cells #[.int .i64 W, .int .i64 S, .int .i64 B, .int .i64 T, .slice ad len cap] 24)).alloc (.cells #[.int .i64 3, .int .i64 a] 78)) (.cells #[.int .i64 0, .int .i64 0] 35)
  have HB := Lib.hid (below_after (below_after hb1 hb2) hb3)
  have C0 := Lib.hid (cfg_next (cfg_next (cfg_new w W S B T (.slice ad len cap)) hb2) hb3)
  have D0' := Two5.new ((w.alloc (.cells #[.int .i64 W, .int .i64 S, .int .i64 B, .int .i64 T, .slice ad len cap] 24)).alloc (.cells #[.int .i64 3, .int .i64 a] 78)) 35 0 0
  rw [show ((w.alloc (.cells #[.int .i64 W, .int .i64 S, .int .i64 B, .int .i64 T, .slice ad len cap] 24)).alloc (.cells #[.int .i64 3, .int .i64 a] 78)).heap.size = w.heap.size + 2 from by simp] at D0'
  have D0 := Lib.hid D0'
  clear hb1 hb2 hb3 D0'
  go_enter Tryd.func31, Tryd.ntmps31
  go_wp2_with fail
  generalize ((w.alloc (.cells #[.int .i64 W, .int .i64 S, .int .i64 B, .int .i64 T, .slice ad len cap] 24)).alloc (.cells #[.int .i64 3, .int .i64 a] 78)).alloc (.cells #[.int .i64 0, .int .i64 0] 35) = w0 at *
  generalize hN : w.heap.size = N at *
  refine (checkAddress_no W S B T ad len cap a _ s0 s1 h).mono ?_
  rintro e w1 ⟨rfl, hb⟩
  have HB1 : Hid (Below N w w1) := HB.out.trans (hb.mono (Nat.le_of_lt (cfg_lt C0.out)))
  have D1 := Lib.hid (D0.out.next hb)
  clear hb
  obtain ⟨b0, b1⟩ := D1.out.cells
  have z0 := D1.out.fz 0
  have z1 := D1.out.fz 1
  obtain ⟨r0, r1⟩ := (D1.out.set 0 0).cells
  go_wp2_with fail
  exact bodyPost_ret (v := .tuple #[.agg #[.int .i64 0, .int .i64 0], .int .i64 4]) (by simp [results, Tryd.results31, go_sem, r0, r1]) rfl ⟨rfl, by first | exact (HB1.out.setCell (Nat.le_add_right _ 2) _).setCell (Nat.le_add_right _ 2) _ | (rw [hN]; exact (HB1.out.setCell (Nat.le_add_right _ 2) _).setCell (Nat.le_add_right _ 2) _)⟩
set_option maxHeartbeats 2000000 in
theorem check_odd (W S B T : Int) (ad : Option Addr) (len cap : Nat) (kd a : Int) (w : World) (h1 : kd ≠ 1) (h2 : kd ≠ 2) (h3 : kd ≠ 3) :
    Calls Tryd.prog 31 #[.agg #[.int .i64 W, .int .i64 S, .int .i64 B, .int .i64 T, .slice ad len cap], .agg #[.int .i64 kd, .int .i64 a]] w fun e w' => e = .returned (.tuple #[.agg #[.int .i64 0, .int .i64 0], .int .i64 2]) ∧ Below w.heap.size w w' := by
  have hb1 := below_alloc w (.cells #[.int .i64 W, .int .i64 S, .int .i64 B, .int .i64 T, .slice ad len cap] 24)
  have hb2 := below_alloc (w.alloc (.cells #[.int .i64 W, .int .i64 S, .int .i64 B, .int .i64 T, .slice ad len cap] 24)) (.cells #[.int .i64 kd, .int .i64 a] 78)
  have hb3 := below_alloc ((w.alloc (.cells #[.int .i64 W, .int .i64 S, .int .i64 B, .int .i64 T, .slice ad len cap] 24)).alloc (.cells #[.int .i64 kd, .int .i64 a] 78)) (.cells #[.int .i64 0, .int .i64 0] 35)
  have HB := Lib.hid (below_after (below_after hb1 hb2) hb3)
  clear hb1 hb2 hb3
  go_enter Tryd.func31, Tryd.ntmps31
  have e1 : (kd == 1) = false := by simpa using h1
  have e2 : (kd == 2) = false := by simpa using h2
  have e3 : (kd == 3) = false := by simpa using h3
  go_wp2_with fail
  exact bodyPost_ret (v := .tuple #[.agg #[.int .i64 0, .int .i64 0], .int .i64 2]) (by simp [results, Tryd.results31, go_sem]) rfl ⟨rfl, HB.out⟩
end Go.Proofs.YtchkgmknhndccaaDoor
