/-
  What a scan has seen; the statements' own 'speaks' of layer 7.
-/
import Derived.Test.YtlpaijobcopbnaaDoorTag3
import Derived.Test.YtlpaijobcopbnaaDoorMemL
import Derived.Test.YtlpaijobcopbnaaDoorMath5
namespace Go.Proofs.YtlpaijobcopbnaaDoor
open Go.RowKit Go.Sort Go.Maps

/-- Is it the word of a reference to that record? -/
def hit (W K : Int) (x : Nat) : Prop := isRef x ∧ (toX x : Int) = W ∧ (toY x : Int) = K
noncomputable def seen (W K : Int) (f : Nat → Nat) : Nat → List Int
  | 0 => []
  | i + 1 => seeS W K (f i) (seen W K f i)
theorem seen_len (W K : Int) (f : Nat → Nat) : ∀ i, (seen W K f i).length ≤ i
  | 0 => Nat.le_refl _
  | i + 1 => Nat.le_trans (seeS_len _ _ _ _) (Nat.succ_le_succ (seen_len W K f i))
theorem seeS_mem {W K : Int} {x : Nat} {S : List Int} {z : Int} : z ∈ seeS W K x S ↔ (hit W K x ∧ (toZ x : Int) = z) ∨ z ∈ S := by
  by_cases h : isRef x ∧ (toX x : Int) = W ∧ (toY x : Int) = K
  · rw [seeS_yes h, List.mem_cons]
    constructor
    · rintro (e | e)
      · exact .inl ⟨h, e.symm⟩
      · exact .inr e
    · rintro (e | e)
      · exact .inl e.2.symm
      · exact .inr e
  · rw [seeS_no h]
    constructor
    · exact .inr
    · rintro (e | e)
      · exact absurd e.1 h
      · exact e
theorem seen_mem (W K : Int) (f : Nat → Nat) (z : Int) : ∀ i, z ∈ seen W K f i ↔ ∃ j, j < i ∧ hit W K (f j) ∧ (toZ (f j) : Int) = z
  | 0 => by simp [seen]
  | i + 1 => by
    show z ∈ seeS W K (f i) (seen W K f i) ↔ _
    rw [seeS_mem, seen_mem W K f z i]
    constructor
    · rintro (h | ⟨j, h1, h2⟩)
      · exact ⟨i, by omega, h⟩
      · exact ⟨j, by omega, h2⟩
    · rintro ⟨j, h1, h2⟩
      by_cases e : j = i
      · subst e; exact .inl h2
      · exact .inr ⟨j, by omega, h2⟩
theorem isRef_of {x y z : Nat} (hx : x < 256) (hy : y < 256) (hz : z < 4294967296) : isRef (ofR x y z) := by
  obtain ⟨h1, h2, h3⟩ := to_of x y z hx hy hz
  unfold isRef
  rw [h1, h2, h3]
/-- Which words are the word of that reference. -/
theorem ref_eq {W K t x : Nat} (hW : W < 256) (hK : K < 256) (ht : t < 4294967296) : ofR W K t = x ↔ hit W K x ∧ (toZ x : Int) = t := by
  constructor
  · rintro rfl
    obtain ⟨h1, h2, h3⟩ := to_of W K t hW hK ht
    exact ⟨⟨isRef_of hW hK ht, by rw [h1], by rw [h2]⟩, by rw [h3]⟩
  · rintro ⟨⟨h1, h2, h3⟩, h4⟩
    have e1 : toX x = W := by omega
    have e2 : toY x = K := by omega
    have e3 : toZ x = t := by omega
    have h1' : ofR (toX x) (toY x) (toZ x) = x := h1
    rw [e1, e2, e3] at h1'
    exact h1'

/-- A step of a scan within the memory. -/
theorem scan_step {g mg mh mb A i n : Nat} {W K : Int} {ms : List Nat} {op : Nat} {kd a : Int} {f : Nat → Nat} {w w0 : World} (h : Hid (ScV w g mg mh mb ((A + i : Nat) : Int) ((n - i : Nat) : Int) W K ⟨ms, op, 0, kd, a⟩ i (seen W K f i))) (hi : i < n) (hn : n ≤ 100000) (hA : A + n ≤ ms.length) (hm : ms.length ≤ 100000) (hop : op < 1000000)
    (hf : ∀ j, j < n → f j = ms.getD (A + j) 0) (hw : AllW ms) (hR0 : RefAt w0) (hb : Below w0.heap.size w0 w) (hg : w0.heap.size ≤ mg) (hh : w0.heap.size ≤ mh) :
    Calls Tryd.prog 16 #[.pointer (some ⟨g, 0, none⟩)] w fun e w' => e = .returned (.bool (decide (i + 1 = n))) ∧ ScV w' g mg mh mb ((A + (i + 1) : Nat) : Int) ((n - (i + 1) : Nat) : Int) W K ⟨ms, op + 1, 0, 1, ((A + i : Nat) : Int)⟩ (i + 1) (seen W K f (i + 1)) ∧ Only [g, mg, mh, mb] w w' := by
  have hj : A + i < ms.length := by omega
  obtain ⟨q, hq⟩ : ∃ q, n - i = q + 1 := ⟨n - i - 1, by omega⟩
  have hq2 : n - (i + 1) = q := by omega
  rw [hq] at h
  have hlt := hR0.lt
  have hx : MSt.rd ⟨ms, op, 0, kd, a⟩ ((A + i : Nat) : Int) = ms.getD (A + i) 0 := rd_at hj
  refine (tstep_more g mg mh mb _ q W K _ i _ w h (hR0.next hb) ⟨by omega, by omega⟩ (by omega) (by omega) (by omega) (by omega) (by rw [hx]; exact hw.get _) (show op < _ by omega) (show (0 : Nat) < 4611686018427387904 by decide)).mono ?_
  rintro e w' ⟨rfl, h1, h2⟩
  rw [hx, begun_at 1 hj, ← hf i hi] at h1
  refine ⟨retbool (by rw [decide_eq_decide]; omega), ?_, h2⟩
  rw [hq2, show ((A + (i + 1) : Nat) : Int) = ((A + i : Nat) : Int) + 1 by omega]
  exact h1

theorem s7_facts : ofR 3 1 0 < 18446744073709551616 ∧ ¬ isRef 0 ∧ isRef (ofR 3 1 0) ∧ toX (ofR 3 1 0) = 3 ∧ toY (ofR 3 1 0) = 1 ∧ toZ (ofR 3 1 0) = 0 := by
  unfold isRef
  decide +kernel
theorem mex_zero : mex [0] = 1 := by
  refine mex_eq (fun m hm => ?_) (by simp)
  obtain rfl : m = 0 := by omega
  simp
theorem mex_013 {f : Nat → Int} (h0 : f 0 = 0) (h1 : f 1 = 1) (h2 : f 2 = 3) : mex (pre f 3) = 2 := by
  refine mex_eq (fun m hm => ?_) ?_
  · rw [pre_mem]
    have : m = 0 ∨ m = 1 := by omega
    rcases this with rfl | rfl
    · exact ⟨0, by omega, h0⟩
    · exact ⟨1, by omega, h1⟩
  · rw [pre_mem]
    rintro ⟨j, h3, h4⟩
    have : j = 0 ∨ j = 1 ∨ j = 2 := by omega
    rcases this with rfl | rfl | rfl
    · rw [h0] at h4; cases h4
    · rw [h1] at h4; cases h4
    · rw [h2] at h4; cases h4
def f013 (j : Nat) : Int := if j = 0 then 0 else if j = 1 then 1 else 3
theorem row013 (w : World) : RowZ (w.alloc (.cells #[.int .i64 0, .int .i64 1, .int .i64 3] 3)) (some ⟨w.heap.size, 0, none⟩) 3 f013 := by
  refine ⟨fun j hj => ?_, fun _ => ⟨_, 0, rfl, by simp, fun j hj => ?_⟩⟩
  · have : j = 0 ∨ j = 1 ∨ j = 2 := by omega
    rcases this with rfl | rfl | rfl <;> rfl
  · have : j = 0 ∨ j = 1 ∨ j = 2 := by omega
    rcases this with rfl | rfl | rfl <;> simp [f013]
theorem least_013 (w : World) : Calls Tryd.prog 10 #[.slice (some ⟨w.heap.size, 0, none⟩) 3 3] (w.alloc (.cells #[.int .i64 0, .int .i64 1, .int .i64 3] 3)) fun e w' => e = .returned (.int .i64 2) ∧ Below (w.alloc (.cells #[.int .i64 0, .int .i64 1, .int .i64 3] 3)).heap.size (w.alloc (.cells #[.int .i64 0, .int .i64 1, .int .i64 3] 3)) w' := by
  have := leastl_any (some ⟨w.heap.size, 0, none⟩) 3 3 f013 _ (row013 w) (by omega)
  rw [mex_013 (f := f013) rfl rfl rfl] at this
  exact this
theorem new7 (w : World) : Calls Tryd.prog 11 #[.int .i64 2] w fun e w' => ∃ g h, e = .returned (.pointer (some ⟨g, 0, none⟩)) ∧ MemAt w' g h ⟨[0, 0], 0, 0, 0, 0⟩ ∧ w.heap.size ≤ g ∧ w.heap.size ≤ h ∧ Below w.heap.size w w' := new_nat 2 2 w (.inr (.inl ⟨rfl, by decide⟩))
set_option maxRecDepth 20000 in
set_option maxHeartbeats 1000000 in
theorem speaks7 (w : World) (hR : Hid (RefAt w)) :
    Calls Tryd.prog 9 #[] w fun e w' => e = .returned (.bool true) ∧ Below w.heap.size w w' := by
  obtain ⟨hl, hr0, hr1, hx, hy, hz⟩ := s7_facts
  have SA : Hid (∀ x, x = 0 → seeS 3 1 x [] = []) := fun x h => by subst h; exact seeS_no (fun h => hr0 h.1)
  have SB : Hid (seeS 3 1 (ofR 3 1 0) [] = [0]) := by
    show _ = _
    rw [seeS_yes ⟨hr1, by rw [hx]; rfl, by rw [hy]; rfl⟩, hz]; rfl
  have HL := Lib.hid hl
  go_enter Tryd.func9, Tryd.ntmps9
  go_wp2_with fail
  refine (new7 _).mono ?_
  rintro e w1 ⟨mg, mh, rfl, m1, hg, hh, hb⟩
  have M1 := Lib.hid m1
  have B1 := Lib.hid hb
  have R1 := Lib.hid (hR.out.next hb)
  clear hb m1 hl hr0 hr1 hx hy hz
  go_wp2_with fail
  refine (of_any 3 1 0 _ R1).mono ?_
  rintro e w2 ⟨rfl, hb⟩
  have M2 := Lib.hid (M1.out.next hb)
  have B2 := Lib.hid (below_two B1.out hb)
  clear hb M1 R1
  have ST := Lib.hid (mstore (j := 1) (x := ofR 3 1 0) M2.out (by decide) (by decide))
  generalize ofR 3 1 0 = R at *
  go_wp2_with fail
  refine ST.out.mono ?_
  rintro e w3 ⟨rfl, m3, hx3⟩
  have M3 : Hid (MemAt w3 mg mh ⟨[0, R], 1, 0, 2, 1⟩) := m3
  have B3 := Lib.hid (below_else B2.out hg hh hx3)
  clear m3 hx3 ST M2
  go_wp2_with fail
  refine (tnew_any mg mh _ 0 2 3 1 _ M3.out (by decide)).mono ?_
  rintro e w4 ⟨g, mb, rfl, h4, hg4, hb4, hb⟩
  have B4 := Lib.hid (below_two B3.out hb)
  have LO : Hid (∀ k ∈ [g, mg, mh, mb], w.heap.size ≤ k) := fun k hk => by have := B3.out.size; simp at hk; omega
  have S4 : Hid (ScV w4 g mg mh mb ((0 + 0 : Nat) : Int) ((2 - 0 : Nat) : Int) 3 1 ⟨[0, R], 1, 0, 2, 1⟩ 0 (seen 3 1 (fun j => [0, R].getD j 0) 0)) := h4
  have AW : Hid (AllW [0, R]) := fun x hx => by
    simp at hx
    rcases hx with rfl | rfl
    · decide
    · exact HL.out
  clear h4 hb hg4 hb4 M3
  go_wp2_with fail
  refine (scan_step S4 (by decide) (by decide) (by simp) (by simp) (by decide) (fun j hj => by simp) AW.out hR.out B4.out hg hh).mono ?_
  rintro e w5 ⟨he, h5, o5⟩
  have he' : e = .returned (.bool false) := he
  subst he'
  have S5 := Lib.hid h5
  have B5 := Lib.hid (below_only B4.out o5 LO.out)
  clear h5 o5 S4 he
  go_wp2_with fail
  refine (scan_step S5 (by decide) (by decide) (by simp) (by simp) (by decide) (fun j hj => by simp) AW.out hR.out B5.out hg hh).mono ?_
  rintro e w6 ⟨he, h6, o6⟩
  have he' : e = .returned (.bool true) := he
  subst he'
  have S6 := Lib.hid h6
  have B6 := Lib.hid (below_only B5.out o6 LO.out)
  clear h6 o6 S5 he
  have BB := Lib.hid (box1 w6 (.cells #[.int .i64 0, .int .i64 1, .int .i64 3] 3))
  have LS := Lib.hid (least_013 w6)
  go_wp2_with fail
  refine LS.out.mono ?_
  rintro e w7 ⟨rfl, hb⟩
  have B7 := Lib.hid (below_two (below_two B6.out BB.out) hb)
  have S7 := Lib.hid ((S6.out.next BB.out).next hb)
  have HS : Hid (mex (seen 3 1 (fun j => [0, R].getD j 0) (1 + 1)) = 1) := by
    show mex (seeS 3 1 R (seeS 3 1 0 [])) = 1
    rw [SA.out 0 rfl, SB.out]; exact mex_zero
  clear hb BB LS S6
  have RF := Lib.hid (tref_any g mg mh mb _ _ 3 1 _ _ _ w7 S7 (by decide))
  rw [HS.out] at RF
  go_wp2_with fail
  refine RF.out.mono ?_
  rintro e w8 ⟨rfl, hb⟩
  have B8 := Lib.hid (below_two B7.out hb)
  clear hb RF
  go_wp2_with fail
  go_ret
  exact ⟨rfl, B8.out⟩

end Go.Proofs.YtlpaijobcopbnaaDoor
