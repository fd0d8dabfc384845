/-
  The document's Has.
-/
import Derived.Test.YtehmeccjgjhidaaDoorStockV
namespace Go.Proofs.YtehmeccjgjhidaaDoor
open Go.RowKit Go.Sort
attribute [local go_sem] Oper.semAt_some

theorem bk_eql (a b c d : Int) (w : World) : (binOp .eql 32 (.agg #[.int .i64 a, .int .i64 b]) (.agg #[.int .i64 c, .int .i64 d])).run Tryd.prog w = .ok (.bool (decide ((a, b) = (c, d)))) w := by
  simp [go_sem, Tryd.underlying32, Tryd.underlying3]
  by_cases h1 : a = c <;> by_cases h2 : b = d <;> simp [h1, h2]
theorem bk_neq (a b c d : Int) (w : World) : (binOp .neq 32 (.agg #[.int .i64 a, .int .i64 b]) (.agg #[.int .i64 c, .int .i64 d])).run Tryd.prog w = .ok (.bool (decide ((a, b) ≠ (c, d)))) w := by
  simp [go_sem, Tryd.underlying32, Tryd.underlying3]
  by_cases h1 : a = c <;> by_cases h2 : b = d <;> simp [h1, h2]
theorem bk_ways (x y : Int × Int) : (x.1 = y.1 ∧ x.2 = y.2) ∨ ¬ x.1 = y.1 ∨ (x.1 = y.1 ∧ ¬ x.2 = y.2) := by
  by_cases h : x.1 = y.1 <;> by_cases h2 : x.2 = y.2 <;> simp [h, h2]
set_option maxRecDepth 20000 in
set_option maxHeartbeats 2000000 in
theorem rhas_any (v : Value) (l : List (Int × Int)) (x : Int × Int) (w : World) (h : Hid (BkRow w v l)) (few : l.length ≤ 1048576) :
    Calls Tryd.prog 11 #[v, .agg #[.int .i64 x.1, .int .i64 x.2]] w fun e w' => e = .returned (.bool (decide (x ∈ l))) ∧ Below w.heap.size w w' := by
  obtain ⟨va, vc, rfl⟩ := ORow.form h.out
  have XB : Hid (Two5 (w.alloc (.cells #[.int .i64 x.1, .int .i64 x.2] 32)) w.heap.size 32 x.1 x.2) := Two5.new w _ _ _
  have B0 := Lib.hid (box1 w (.cells #[.int .i64 x.1, .int .i64 x.2] 32))
  have R0 := Lib.hid (ORow.next h.out B0.out)
  go_enter Tryd.func11, Tryd.ntmps11
  go_wp2_with fail
  generalize w.alloc (.cells #[.int .i64 x.1, .int .i64 x.2] 32) = w0 at *
  go_loopw [5] (fun u wr => ∃ i : Nat, i ≤ l.length ∧ u = .int .i64 (i : Nat) ∧ Hid (x ∉ l.take i) ∧ Hid (Below w0.heap.size w0 wr)) (fun u _ => l.length - (intOf u).toNat)
  case atStart => exact ⟨0, by omega, rfl, Lib.hid (by simp), Lib.hid (Below.refl _ _)⟩
  case round =>
    obtain ⟨i, hi, rfl, hno, B1⟩ := hrel
    have R1 := Lib.hid (ORow.next R0.out B1.out)
    have X1 := Lib.hid (XB.out.next B1.out)
    have BF := Lib.hid (B0.out.trans (B1.out.mono (by have := B0.out.size; omega)))
    by_cases hlt : i < l.length
    · have l3 : (i : Int) < (l.length : Int) := by omega
      obtain ⟨y, hy⟩ : ∃ y, l[i]? = some y := ⟨_, List.getElem?_eq_getElem hlt⟩
      obtain ⟨lb, cap, hv2, hcell, _⟩ := ORow.at bkEnc R1.out hy
      simp only [Value.slice.injEq, true_and] at hv2
      obtain ⟨rfl, rfl⟩ := hv2
      have y0 : wr.cell? ⟨lb, i * 2, none⟩ = some (.int .i64 y.1) := hcell 0 _ rfl
      have y1 : wr.cell? ⟨lb, i * 2 + 1, none⟩ = some (.int .i64 y.2) := hcell 1 _ rfl
      have ht : Hid (l.take (i + 1) = l.take i ++ [y]) := Lib.hid (by rw [List.take_add_one, hy]; rfl)
      have hm := Lib.hid (List.mem_of_getElem? hy)
      have x0 := two_c0 X1.out
      have x1 := two_c1 X1.out
      clear hcell hy
      have j0 := cell_regrown y0
      have j1 := cell_regrown y1
      have j2 := cell_regrown x0
      have j3 := cell_regrown x1
      rcases bk_ways y x with ⟨g1, g2⟩ | g1 | ⟨g1, g2⟩
      · obtain rfl : y = x := Prod.ext g1 g2
        go_upto_region 4 with fail
        refine wp_region_quiet_below (by kernel_rfl) (by kernel_rfl) ?_
        repeat (go_big_quiet_step (fail))
        refine wpQuiet_nil ?_
        intro _ hw'
        obtain ⟨⟨dq, osq⟩, hw''⟩ := hw'
        subst hw''
        have bg := below_regrown wr dq osq
        go_wp2_with fail
        go_ret
        exact ⟨by rw [decide_eq_true hm.out]; rfl, BF.out.trans (bg.mono BF.out.size)⟩
      all_goals
        have hne : Hid (x ≠ y) := Lib.hid (fun e => by subst e; first | exact g1 rfl | exact g2 rfl)
        have hn2 : Hid (x ∉ l.take (i + 1)) := Lib.hid (by rw [ht.out]; simp; exact ⟨hno.out, hne.out⟩)
        go_upto_region 4 with fail
        refine wp_region_quiet_below (by kernel_rfl) (by kernel_rfl) ?_
        repeat (go_big_quiet_step (fail))
        refine wpQuiet_nil ?_
        intro _ hw'
        obtain ⟨⟨dq, osq⟩, hw''⟩ := hw'
        subst hw''
        have bg := below_regrown wr dq osq
        go_wp2_with fail
        have B2 := Lib.hid (B1.out.trans (bg.mono B1.out.size))
        clear bg B1
        generalize Sort.grow (redrawn wr dq) osq = w4 at *
        go_roundw
        case rel => exact ⟨i + 1, by omega, by push_cast; rfl, hn2, B2⟩
        case measure => simp [intOf]; omega
    · obtain rfl : i = l.length := by omega
      go_wp2_with fail
      go_ret
      exact ⟨by rw [decide_eq_false (by have := hno.out; rwa [List.take_length] at this)]; rfl, BF.out⟩
end Go.Proofs.YtehmeccjgjhidaaDoor
