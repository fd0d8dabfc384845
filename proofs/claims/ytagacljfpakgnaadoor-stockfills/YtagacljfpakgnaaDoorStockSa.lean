/-
  Two rows of the same blocks; a Stock and the piles beside it at their beginning.
-/
import Derived.Test.YtagacljfpakgnaaDoorStockSp
import Derived.Test.YtagacljfpakgnaaDoorRowSt
import Derived.Test.YtagacljfpakgnaaDoorRowBk
namespace Go.Proofs.YtagacljfpakgnaaDoor
open Go.RowKit Go.Maps Go.Sort
attribute [local go_sem] Oper.semAt_some

set_option maxRecDepth 20000 in
set_option maxHeartbeats 4000000 in
theorem same12_any (v u : Value) (l : List (Int × Int)) (w : World) (hv : Hid (BkRow w v l)) (hu : Hid (BkRow w u l)) (few : l.length ≤ 1000000) :
    Calls Tryd.prog 12 #[v, u] w fun e w' => e = .returned (.bool true) ∧ Below w.heap.size w w' := by
  obtain ⟨va, vc, rfl⟩ := ORow.form hv.out
  obtain ⟨ua, uc, rfl⟩ := ORow.form hu.out
  go_enter Tryd.func12, Tryd.ntmps12
  go_wp2_with fail
  go_loopw [13] (fun u13 wr => ∃ i : Nat, i ≤ l.length ∧ u13 = .int .i64 (i : Nat) ∧ Hid (Below w.heap.size w wr)) (fun u13 _ => l.length - (intOf u13).toNat)
  case atStart => exact ⟨0, by omega, rfl, Lib.hid (Below.refl _ _)⟩
  case round =>
    obtain ⟨i, hi, rfl, B1⟩ := hrel
    by_cases hlt : i < l.length
    · have l3 : (i : Int) < (l.length : Int) := by omega
      obtain ⟨y, hy⟩ : ∃ y, l[i]? = some y := ⟨_, List.getElem?_eq_getElem hlt⟩
      obtain ⟨lb, cap, hv2, hcell, _⟩ := ORow.at bkEnc (ORow.next hv.out B1.out) hy
      simp only [Value.slice.injEq, true_and] at hv2
      obtain ⟨rfl, rfl⟩ := hv2
      obtain ⟨ub, cap2, hu2, hcell2, _⟩ := ORow.at bkEnc (ORow.next hu.out B1.out) hy
      simp only [Value.slice.injEq, true_and] at hu2
      obtain ⟨rfl, rfl⟩ := hu2
      have y0 : wr.cell? ⟨lb, i * 2, none⟩ = some (.int .i64 y.1) := hcell 0 _ rfl
      have y1 : wr.cell? ⟨lb, i * 2 + 1, none⟩ = some (.int .i64 y.2) := hcell 1 _ rfl
      have x0 : wr.cell? ⟨ub, i * 2, none⟩ = some (.int .i64 y.1) := hcell2 0 _ rfl
      have x1 : wr.cell? ⟨ub, i * 2 + 1, none⟩ = some (.int .i64 y.2) := hcell2 1 _ rfl
      clear hcell hcell2 hy
      have j0 := cell_regrown y0
      have j1 := cell_regrown y1
      have j2 := cell_regrown x0
      have j3 := cell_regrown x1
      go_upto_region 6 with fail
      refine wp_region_quiet_below (by kernel_rfl) (by kernel_rfl) ?_
      repeat (go_big_quiet_step (fail))
      refine wpQuiet_nil ?_
      intro _ hw'
      obtain ⟨⟨dq, osq⟩, hw''⟩ := hw'
      subst hw''
      have bg := below_regrown wr dq osq
      have B2 := Lib.hid (B1.out.trans (bg.mono B1.out.size))
      clear bg B1 j0 j1 j2 j3 y0 y1 x0 x1
      generalize Sort.grow (redrawn wr dq) osq = w4 at *
      go_wp2_with fail
      go_roundw
      case rel => exact ⟨i + 1, by omega, by push_cast; rfl, B2⟩
      case measure => simp [intOf]; omega
    · obtain rfl : i = l.length := by omega
      go_wp2_with fail
      go_ret
      exact ⟨rfl, B1.out⟩
theorem made_rows (n : Nat) : madeCells #[.slice none 0 0] n = ((List.range n).map fun _ => (Value.slice none 0 0)).toArray := by
  apply Array.ext'
  simp [madeCells, Nat.mod_one]
/-- The beginning. -/
theorem pr_start {w : World} {A : Nat → Prop} {sb clb pb qb : Nat} {W S B T : Int} {len : Nat} {f : Nat → Int} {M : Nat → Nat} (h : Stk w sb clb pb W S B T len f 0 (fun _ => []) (fun _ => .slice none 0 0) M) (hq : w.heap[qb]? = some (.cells ((List.range len).map fun _ => (Value.slice none 0 0)).toArray 37 (0, 0)))
    (a0 : ∀ b, A b → b < w.heap.size) (a1 : A sb ∧ A clb ∧ A pb ∧ A qb) (a2 : ∀ k, k < len → A (M k)) : Pr w A sb clb pb qb W S B T len f 0 (fun _ => []) (fun _ => []) (fun _ => .slice none 0 0) M (fun _ => .slice none 0 0) :=
  ⟨h, hq, fun _ _ => ORow.nil w, fun _ _ => GoodP.nil, a0, a1, a2, fun _ _ _ e => (by cases e), fun _ _ _ e => (by cases e), fun _ _ _ _ _ e => (by cases e)⟩
theorem infoRow : (Tryd.prog.info? 37).map (fun i => (i.zero, i.size, i.bytes)) = some (some (.slice none 0 0), 1, 24) := by kernel_rfl
end Go.Proofs.YtagacljfpakgnaaDoor
