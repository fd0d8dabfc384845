/-
  Two rows of the same events; each event one step more; what the statements of layer 18 say ahead.
-/
import Derived.Test.YtagacljfpakgnabNote5
namespace Go.Proofs.Ytagacljfpakgnab
open Go.RowKit Go.Sort Go.Maps
attribute [local go_sem] Oper.semAt_some

theorem EvRow.cells {w : World} {v : Value} {l : List Ev} (h : EvRow w v l) {i : Nat} {x : Ev} (hx : l[i]? = some x) : ∃ b cap, v = .slice (some ⟨b, 0, none⟩) l.length cap ∧ w.cell? ⟨b, i * 9, none⟩ = some (.int .i64 x.w) ∧ w.cell? ⟨b, i * 9 + 1, none⟩ = some (.int .i64 x.k) ∧ w.cell? ⟨b, i * 9 + 2, none⟩ = some (.int .i64 x.n) ∧ w.cell? ⟨b, i * 9 + 3, none⟩ = some (.int .i64 x.c) ∧ w.cell? ⟨b, i * 9 + 4, none⟩ = some (.int .i64 x.a) ∧ w.cell? ⟨b, i * 9 + 5, none⟩ = some (.int .i64 x.s) ∧ w.cell? ⟨b, i * 9 + 6, none⟩ = some (.int .i64 x.b) ∧ w.cell? ⟨b, i * 9 + 7, none⟩ = some (.int .i64 x.p) ∧ w.cell? ⟨b, i * 9 + 8, none⟩ = some (.int .i64 x.e) ∧ ∀ j, w.frozen? ⟨b, j, none⟩ = false := by
  obtain ⟨b, cap, hv, hc, hf⟩ := ORow.at evEnc h hx
  exact ⟨b, cap, hv, hc 0 _ rfl, hc 1 _ rfl, hc 2 _ rfl, hc 3 _ rfl, hc 4 _ rfl, hc 5 _ rfl, hc 6 _ rfl, hc 7 _ rfl, hc 8 _ rfl, hf⟩
set_option maxRecDepth 20000 in
set_option maxHeartbeats 4000000 in
theorem same18_any (v u : Value) (l : List Ev) (w : World) (hv : Hid (EvRow w v l)) (hu : Hid (EvRow w u l)) (few : l.length ≤ 1000000) :
    Calls Try.prog 9 #[v, u] w fun e w' => e = .returned (.bool true) ∧ Below w.heap.size w w' := by
  obtain ⟨va, vc, rfl⟩ := ORow.form hv.out
  obtain ⟨ua, uc, rfl⟩ := ORow.form hu.out
  go_enter Try.func9, Try.ntmps9
  go_wp2_with fail
  go_loopw [13] (fun u13 wr => ∃ i : Nat, i ≤ l.length ∧ u13 = .int .i64 (i : Nat) ∧ Hid (Below w.heap.size w wr)) (fun u13 _ => l.length - (intOf u13).toNat)
  case atStart => exact ⟨0, by omega, rfl, Lib.hid (Below.refl _ _)⟩
  case round =>
    obtain ⟨i, hi, rfl, B1⟩ := hrel
    by_cases hlt : i < l.length
    · have l3 : (i : Int) < (l.length : Int) := by omega
      obtain ⟨y, hy⟩ : ∃ y, l[i]? = some y := ⟨_, List.getElem?_eq_getElem hlt⟩
      obtain ⟨lb, cap, hv2, y0, y1, y2, y3, y4, y5, y6, y7, y8, _⟩ := EvRow.cells (ORow.next hv.out B1.out) hy
      simp only [Value.slice.injEq, true_and] at hv2
      obtain ⟨rfl, rfl⟩ := hv2
      obtain ⟨ub, cap2, hu2, x0, x1, x2, x3, x4, x5, x6, x7, x8, _⟩ := EvRow.cells (ORow.next hu.out B1.out) hy
      simp only [Value.slice.injEq, true_and] at hu2
      obtain ⟨rfl, rfl⟩ := hu2
      clear hy
      have j0 := cell_regrown y0
      have j1 := cell_regrown y1
      have j2 := cell_regrown y2
      have j3 := cell_regrown y3
      have j4 := cell_regrown y4
      have j5 := cell_regrown y5
      have j6 := cell_regrown y6
      have j7 := cell_regrown y7
      have j8 := cell_regrown y8
      have k0 := cell_regrown x0
      have k1 := cell_regrown x1
      have k2 := cell_regrown x2
      have k3 := cell_regrown x3
      have k4 := cell_regrown x4
      have k5 := cell_regrown x5
      have k6 := cell_regrown x6
      have k7 := cell_regrown x7
      have k8 := cell_regrown x8
      go_upto_region 6 with fail
      refine wp_region_quiet_below (by kernel_rfl) (by kernel_rfl) ?_
      repeat (go_big_quiet_step (fail))
      refine wpQuiet_nil ?_
      intro _ hw'
      obtain ⟨⟨dq, osq⟩, hw''⟩ := hw'
      subst hw''
      have bg := below_regrown wr dq osq
      have B2 := Lib.hid (B1.out.trans (bg.mono B1.out.size))
      clear bg B1 j0 j1 j2 j3 j4 j5 j6 j7 j8 k0 k1 k2 k3 k4 k5 k6 k7 k8 y0 y1 y2 y3 y4 y5 y6 y7 y8 x0 x1 x2 x3 x4 x5 x6 x7 x8
      generalize Sort.grow (redrawn wr dq) osq = w4 at *
      go_wp2_with fail
      go_roundw
      case rel => exact ⟨i + 1, by omega, by push_cast; rfl, B2⟩
      case measure => simp [intOf]; omega
    · obtain rfl : i = l.length := by omega
      go_wp2_with fail
      go_ret
      exact ⟨rfl, B1.out⟩
/-- One step more. -/
def incE (x : Ev) : Ev := { x with s := wrap64 (x.s + 1) }
def incTo (l : List Ev) (i : Nat) : List Ev := (l.take i).map incE ++ l.drop i
theorem incTo_len (l : List Ev) (i : Nat) : (incTo l i).length = l.length := by
  unfold incTo
  rw [List.length_append, List.length_map, List.length_take, List.length_drop]
  omega
theorem incTo_all (l : List Ev) : incTo l l.length = l.map incE := by unfold incTo; simp
theorem incTo_at {l : List Ev} {i : Nat} {x : Ev} (h : l[i]? = some x) : (incTo l i)[i]? = some x := by
  have hl := (List.getElem?_eq_some_iff.1 h).1
  unfold incTo
  rw [List.getElem?_append_right (by rw [List.length_map, List.length_take]; omega), List.length_map, List.length_take, List.getElem?_drop]
  rw [show min i l.length = i from by omega, Nat.sub_self, Nat.add_zero]
  exact h
theorem incTo_next {l : List Ev} {i : Nat} {x : Ev} (h : l[i]? = some x) : (incTo l i).set i (incE x) = incTo l (i + 1) := by
  have hl := (List.getElem?_eq_some_iff.1 h).1
  unfold incTo
  rw [List.set_append_right _ _ (by rw [List.length_map, List.length_take]; omega), List.length_map, List.length_take, show i - min i l.length = 0 from by omega]
  have e : l[i] = x := by rw [List.getElem?_eq_getElem hl] at h; exact Option.some.inj h
  have hd := List.drop_eq_getElem_cons hl
  rw [e] at hd
  rw [List.take_add_one, h, List.map_append, hd, List.set_cons_zero, List.append_assoc]
  rfl
def ev1 : Ev := evNew 3 1 5 2
def ev2 : Ev := ⟨3, 1, 5, 0, 0, 1, 2, 0, 0⟩
def ev3 : Ev := ⟨3, 1, 5, 0, 9, 1, 2, 4, 0⟩
def ev4 : Ev := ⟨3, 1, 5, 0, 9, 1, 2, 4, 4⟩
theorem sp1 : findI [] 3 = none ∧ bgL [] 3 1 5 2 = [ev1] ∧ findI [ev1] 3 = some 0 ∧ findI [ev2] 3 = some 0 ∧ findI [ev3] 3 = some 0 := ⟨rfl, rfl, rfl, rfl, rfl⟩
theorem sp2 : bgL [ev1] 3 0 0 3 = [ev1] ∧ stL [ev1] 3 = [ev2] ∧ cnB [ev2] 3 = true ∧ cnL [ev2] 3 0 9 4 = [ev3] ∧ enL [ev3] 3 0 9 4 = [ev4] := ⟨rfl, by
  show [({ ev1 with s := wrap64 (0 + 1) } : Ev)] = [ev2]
  rw [show wrap64 (0 + 1) = 1 from by unfold wrap64; omega]
  rfl, rfl, rfl, rfl⟩
/-- What a call leaves, further. -/
theorem Tn.far {N bb : Nat} {v : Value} {o : Option Nat} {l' : List Ev} {w w' : World} (h : Tn bb v o w l' w') (hf : ∀ b ∈ bb :: foot v o, N ≤ b) (hN : N ≤ w.heap.size) : ∃ v' o', Bn w' bb v' o' l' ∧ (∀ b ∈ bb :: foot v' o', N ≤ b) ∧ Below N w w' := by
  obtain ⟨v', o', h1, h2, h3⟩ := h
  refine ⟨v', o', h1, fun b hb => ?_, h2.below hf hN⟩
  rcases List.mem_cons.1 hb with rfl | hb
  · exact hf _ (by simp)
  · rcases h3 b hb with q | q
    · exact hf b (List.mem_cons_of_mem _ q)
    · omega
end Go.Proofs.Ytagacljfpakgnab
