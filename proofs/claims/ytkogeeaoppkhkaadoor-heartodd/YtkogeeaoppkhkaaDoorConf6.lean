/-
  Contract of package conf's Copy.
-/
import Derived.Test.YtkogeeaoppkhkaaDoorApp
import Derived.Test.YtkogeeaoppkhkaaDoorConf5
import Derived.Test.YtkogeeaoppkhkaaDoorMem3
namespace Go.Proofs.YtkogeeaoppkhkaaDoor
open Go.RowKit

theorem made_nums (n : Nat) : (madeCells #[Value.int .i64 0] n).toList = numsOf (fun _ => 0) n := by
  apply List.ext_getElem
  · simp [madeCells, numsOf]
  · intro i h1 h2
    simp [madeCells, numsOf, Nat.mod_one]
theorem sizeI : (Tryd.prog.info? 3).map (·.size) = some 1 := by kernel_rfl
theorem row_src {w : World} {ad : Option Addr} {len : Nat} {f : Nat → Int} (hr : RowI w ad len f) (h0 : 0 < (numsOf f len).length) : ∃ a, ad = some a ∧ ∀ j v, (numsOf f len)[j]? = some v → w.cell? (a.add j) = some v := by
  rw [nums_len] at h0
  obtain ⟨b, off, rfl, _, hc⟩ := hr h0
  refine ⟨_, rfl, fun j v hv => ?_⟩
  obtain ⟨hj, rfl⟩ := nums_at hv
  rw [Addr.add_lit]
  exact hc j hj
theorem cfg_set {w : World} {N : Nat} {W S B T : Int} {cl : Value} (h : Cfg5 w N W S B T cl) (cl' : Value) : Cfg5 (w.setCell ⟨N, 4, none⟩ cl') N W S B T cl' := by
  unfold Cfg5; rw [set_of h]; rfl
theorem cfg_set5 {w : World} {N : Nat} {W S B T : Int} {cl : Value} (h : Cfg5 w N W S B T cl) (W' S' B' T' : Int) (cl' : Value) :
    Cfg5 (((((w.setCell ⟨N, 0, none⟩ (.int .i64 W')).setCell ⟨N, 1, none⟩ (.int .i64 S')).setCell ⟨N, 2, none⟩ (.int .i64 B')).setCell ⟨N, 3, none⟩ (.int .i64 T')).setCell ⟨N, 4, none⟩ cl') N W' S' B' T' cl' := by
  unfold Cfg5; rw [set_of (set_of (set_of (set_of (set_of h _) _) _) _) _]; rfl
theorem cfg_frz {w : World} {N : Nat} {W S B T : Int} {cl : Value} (h : Cfg5 w N W S B T cl) (j : Nat) : w.frozen? ⟨N, j, none⟩ = false := frozen_of h
theorem grown_none2 {w w1 : World} (hg : w.grownBy w1 none) : Below w.heap.size w w1 := grown_below hg rfl

/-- What Copy answers. -/
def Copied (w : World) (W S B T : Int) (len : Nat) (f : Nat → Int) (e : Ending) (w' : World) : Prop :=
  ∃ b, e = .returned (.agg #[.int .i64 W, .int .i64 S, .int .i64 B, .int .i64 T, .slice (some ⟨b, 0, none⟩) len len]) ∧ w'.heap[b]? = some (.cells (numsOf f len).toArray 3 (0, 0)) ∧ w.heap.size ≤ b ∧ Below w.heap.size w w'

set_option maxHeartbeats 2000000 in
theorem copy_any (W S B T : Int) (ad : Option Addr) (len cap : Nat) (f : Nat → Int) (w : World) (hr : Hid (RowI w ad len f)) (hl : len ≤ 1000) :
    Calls Tryd.prog 44 #[.agg #[.int .i64 W, .int .i64 S, .int .i64 B, .int .i64 T, .slice ad len cap]] w (Copied w W S B T len f) := by
  obtain ⟨i0, hi, hz0, hz1, hz2⟩ := info_parts infoInt
  have b1 := below_alloc w (.cells #[.int .i64 W, .int .i64 S, .int .i64 B, .int .i64 T, .slice ad len cap] 24)
  have b2 := below_alloc (w.alloc (.cells #[.int .i64 W, .int .i64 S, .int .i64 B, .int .i64 T, .slice ad len cap] 24)) (.cells #[.int .i64 0, .int .i64 0, .int .i64 0, .int .i64 0, .slice none 0 0] 24)
  have C1 := Lib.hid (cfg_next (cfg_new w W S B T (.slice ad len cap)) b2)
  have C2 : Hid (Cfg5 ((w.alloc (.cells #[.int .i64 W, .int .i64 S, .int .i64 B, .int .i64 T, .slice ad len cap] 24)).alloc (.cells #[.int .i64 0, .int .i64 0, .int .i64 0, .int .i64 0, .slice none 0 0] 24)) (w.heap.size + 1) 0 0 0 0 (.slice none 0 0)) := by
    have := cfg_new (w.alloc (.cells #[.int .i64 W, .int .i64 S, .int .i64 B, .int .i64 T, .slice ad len cap] 24)) 0 0 0 0 (.slice none 0 0)
    rw [show (w.alloc (.cells #[.int .i64 W, .int .i64 S, .int .i64 B, .int .i64 T, .slice ad len cap] 24)).heap.size = w.heap.size + 1 from by simp] at this
    exact this
  have B2 := Lib.hid (below_after b1 b2)
  have R2 : Hid (RowI ((w.alloc (.cells #[.int .i64 W, .int .i64 S, .int .i64 B, .int .i64 T, .slice ad len cap] 24)).alloc (.cells #[.int .i64 0, .int .i64 0, .int .i64 0, .int .i64 0, .slice none 0 0] 24)) ad len f) := hr.out.next B2.out
  clear b1 b2
  go_enter Tryd.func44, Tryd.ntmps44
  go_wp2_with (at_make; refine wpList_make_full _ rfl _ _ 22 rfl 0 3 i0 (.int .i64 0) 1 Tryd.underlying22 hi hz0 hz1 .i64 .i64 _ _ len rfl rfl (by omega) (by omega) (by rw [hz2]; omega) (by unfold maxLen; omega) (Nat.zero_le _) ?_)
  intro w3 ho hg
  generalize hw2 : (w.alloc (.cells #[.int .i64 W, .int .i64 S, .int .i64 B, .int .i64 T, .slice ad len cap] 24)).alloc (.cells #[.int .i64 0, .int .i64 0, .int .i64 0, .int .i64 0, .slice none 0 0] 24) = w2 at *
  have hsz : w2.heap.size = w.heap.size + 2 := by rw [← hw2]; simp
  have hb3 : Below w2.heap.size w2 w3 := grown_none2 hg
  have hz : w3.heap[w.heap.size + 1 + 1]? = some (.cells (numsOf (fun _ => 0) len).toArray 3 (0, 0)) := by
    have hm : (madeCells #[Value.int .i64 0] len) = (numsOf (fun _ => 0) len).toArray := by rw [← made_nums len]
    rw [owned_all ho, ← hm]
  have HZ := Lib.hid hz
  have HB3 := Lib.hid hb3
  have R3 : Hid (RowI w3 ad len f) := R2.out.next hb3
  obtain ⟨c0, c1, c2, c3, c4⟩ := cfg_cells (cfg_next C1.out hb3)
  have hX : w2.heap.size ≤ w.heap.size + 1 + 1 := by omega
  have HSZ := Lib.hid hsz
  clear ho hg hz hb3 hw2 hsz
  go_wp2_with (with_reducible refine wpList_copy_splice rfl (.tmp 8) (.tmp 10) 22 22 rfl 3 Tryd.underlying22 sizeI _ _ _ _ _ _ rfl rfl (w.heap.size + 1 + 1) 0 _ 3 HZ.out (numsOf f len) (by rw [nums_len]; simp) (fun h0 => ⟨rfl, row_src R3.out h0⟩) (by rw [nums_len, nums_len]; simp) (nums_one f len) w2.heap.size w2 HB3.out hX ?_)
  intro w4 HG4 hB4
  have hsz := HSZ.out
  have K4 : Hid (w4.heap[w.heap.size + 1 + 1]? = some (.cells (numsOf f len).toArray 3 (0, 0))) := by
    show w4.heap[w.heap.size + 1 + 1]? = _
    rw [HG4.out, splice_all (by rw [nums_len, nums_len])]
  have D1 := cfg_next C1.out hB4
  have D2 := cfg_next C2.out hB4
  have E1 := cfg_set D1 (.slice (some ⟨w.heap.size + 1 + 1, 0, none⟩) len len)
  have D2' : Cfg5 (w4.setCell ⟨w.heap.size, 4, none⟩ (.slice (some ⟨w.heap.size + 1 + 1, 0, none⟩) len len)) (w.heap.size + 1) 0 0 0 0 (.slice none 0 0) := (set_other (by omega) _).trans D2
  have F2 := Lib.hid (cfg_set5 D2' W S B T (.slice (some ⟨w.heap.size + 1 + 1, 0, none⟩) len len))
  have KF : Hid ((((((((w4.setCell ⟨w.heap.size, 4, none⟩ (.slice (some ⟨w.heap.size + 1 + 1, 0, none⟩) len len)).setCell ⟨w.heap.size + 1, 0, none⟩ (.int .i64 W)).setCell ⟨w.heap.size + 1, 1, none⟩ (.int .i64 S)).setCell ⟨w.heap.size + 1, 2, none⟩ (.int .i64 B)).setCell ⟨w.heap.size + 1, 3, none⟩ (.int .i64 T)).setCell ⟨w.heap.size + 1, 4, none⟩ (.slice (some ⟨w.heap.size + 1 + 1, 0, none⟩) len len)).heap[w.heap.size + 1 + 1]?) = some (.cells (numsOf f len).toArray 3 (0, 0))) := by
    show _ = _
    rw [set_other (by omega), set_other (by omega), set_other (by omega), set_other (by omega), set_other (by omega), set_other (by omega)]
    exact K4.out
  have b4 : Below w.heap.size w w4 := B2.out.trans (hB4.mono (by omega))
  have BF := Lib.hid ((((((b4.setCell (p := ⟨w.heap.size, 4, none⟩) (Nat.le_refl _) (.slice (some ⟨w.heap.size + 1 + 1, 0, none⟩) len len)).setCell (p := ⟨w.heap.size + 1, 0, none⟩) (Nat.le_succ _) (.int .i64 W)).setCell (p := ⟨w.heap.size + 1, 1, none⟩) (Nat.le_succ _) (.int .i64 S)).setCell (p := ⟨w.heap.size + 1, 2, none⟩) (Nat.le_succ _) (.int .i64 B)).setCell (p := ⟨w.heap.size + 1, 3, none⟩) (Nat.le_succ _) (.int .i64 T)).setCell (p := ⟨w.heap.size + 1, 4, none⟩) (Nat.le_succ _) (.slice (some ⟨w.heap.size + 1 + 1, 0, none⟩) len len))
  clear c0 c1 c2 c3 c4
  obtain ⟨c0, c1, c2, c3, c4⟩ := cfg_cells D1
  obtain ⟨d0, d1, d2, d3, d4⟩ := cfg_cells D2
  have z1 := cfg_frz D1
  have z2 := cfg_frz D2
  clear HG4 hB4 E1 D2' b4 D1 D2 hsz
  go_wp2_with fail
  obtain ⟨r0, r1, r2, r3, r4⟩ := cfg_cells F2.out
  exact bodyPost_ret (v := .agg #[.int .i64 W, .int .i64 S, .int .i64 B, .int .i64 T, .slice (some ⟨w.heap.size + 1 + 1, 0, none⟩) len len]) (by simp [results, Tryd.results44, go_sem, r0, r1, r2, r3, r4]) rfl ⟨_, rfl, KF.out, by omega, BF.out⟩

end Go.Proofs.YtkogeeaoppkhkaaDoor
