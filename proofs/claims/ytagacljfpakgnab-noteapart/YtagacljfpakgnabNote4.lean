/-
  A worker begins something.
-/
import Derived.Test.YtagacljfpakgnabNote3
namespace Go.Proofs.Ytagacljfpakgnab
open Go.RowKit Go.Sort Go.Maps
attribute [local go_sem] Oper.semAt_some

theorem nil_map_eq (w : World) : (binOp .eql 25 (.map none) (.map none)).run Try.prog w = .ok (.bool true) w := by kernel_rfl
theorem some_map_eq (b : Nat) (w : World) : (binOp .eql 25 (.map (some b)) (.map none)).run Try.prog w = .ok (.bool false) w := by kernel_rfl
def evNew (i k n t : Int) : Ev := ⟨i, k, n, 0, 0, 0, t, 0, 0⟩
section
variable (bb : Nat) (v : Value) (o : Option Nat) (l : List Ev)
set_option maxRecDepth 20000 in
set_option maxHeartbeats 2000000 in
theorem nbegin_no (i k n t : Int) (j : Nat) (w : World) (h : Hid (Bn w bb v o l)) (hi : (Lit.int .i64 i).wf = true) (hf : findI l i = some j) :
    Calls Try.prog 7 #[.pointer (some ⟨bb, 0, none⟩), .int .i64 i, .agg #[.int .i64 k, .int .i64 n], .int .i64 t] w fun e w' => e = .returned (.bool false) ∧ Below w.heap.size w w' := by
  have hb := box1 w (.cells #[.int .i64 k, .int .i64 n] 29)
  obtain ⟨vb, cap, hv, DO'⟩ := doing_some bb v o l i j _ (Lib.hid (h.out.next hb)) hi hf
  have DO := Lib.hid DO'
  have B0 := Lib.hid hb
  clear hb DO'
  go_enter Try.func7, Try.ntmps7
  go_wp2_with fail
  refine DO.out.mono ?_
  rintro e w' ⟨rfl, rfl⟩
  go_wp2_with fail
  go_ret
  exact ⟨rfl, B0.out⟩
set_option maxRecDepth 20000 in
set_option maxHeartbeats 4000000 in
theorem nbegin_nil (i k n t : Int) (w : World) (h : Hid (Bn w bb v none l)) (hi : (Lit.int .i64 i).wf = true) (hf : findI l i = none) (few : l.length ≤ 100000) :
    Calls Try.prog 7 #[.pointer (some ⟨bb, 0, none⟩), .int .i64 i, .agg #[.int .i64 k, .int .i64 n], .int .i64 t] w fun e w' => e = .returned (.bool true) ∧ Tn bb v none w (l ++ [evNew i k n t]) w' := by
  have hb := box1 w (.cells #[.int .i64 k, .int .i64 n] 29)
  have X0 : Hid ((w.alloc (.cells #[.int .i64 k, .int .i64 n] 29)).heap[w.heap.size]? = some (.cells #[.int .i64 k, .int .i64 n] 29 (0, 0))) := heap_new w _
  have H0 := Lib.hid (h.out.next hb)
  have B0 := Lib.hid hb
  have LT := Lib.hid h.out.lt
  clear hb
  obtain ⟨va, vc, rfl⟩ := ORow.form h.out.row
  have DO := Lib.hid (doing_none bb _ _ l i _ H0 hi hf)
  have c1 := H0.out.cells.2
  have q := nil_map_eq
  have hmk := @run_makeMap Try.prog
  go_enter Try.func7, Try.ntmps7
  go_wp2_with fail
  refine DO.out.mono ?_
  rintro e w' ⟨rfl, rfl⟩
  clear DO
  have ff := frozen_of (j := 1) (((box1 _ (.map #[] 0)).block _ (heap_lt H0.out.box)).trans H0.out.box)
  have c2 : ((w.alloc (.cells #[.int .i64 k, .int .i64 n] 29)).alloc (.map #[] 0)).cell? ⟨bb, 1, none⟩ = some (.map none) := by rw [cell_of (((box1 _ (.map #[] 0)).block _ (heap_lt H0.out.box)).trans H0.out.box)]; rfl
  go_upto_region 5 with fail
  clear ff c2 c1 q
  generalize hw1 : w.alloc (.cells #[.int .i64 k, .int .i64 n] 29) = w1 at *
  have SZ : w1.heap.size = w.heap.size + 1 := by rw [← hw1]; simp
  have hb := box1 w1 (.map #[] 0)
  have MD := MpI.made w1
  rw [SZ] at MD
  have o1 : Only [bb] (w1.alloc (.map #[] 0)) ((w1.alloc (.map #[] 0)).setCell ⟨bb, 1, none⟩ (.map (some (w.heap.size + 1)))) := Only.of_set (by simp) _
  have OO : Hid (Only (bb :: foot (.slice va l.length vc) none) w ((w1.alloc (.map #[] 0)).setCell ⟨bb, 1, none⟩ (.map (some (w.heap.size + 1))))) := (Only.of_below (B0.out.trans (hb.mono B0.out.size))).trans' o1 (fun b hb => .inl (by simp at hb; simp [hb]))
  have nbb : bb < w1.heap.size := heap_lt H0.out.box
  have H1 : Hid (Bn ((w1.alloc (.map #[] 0)).setCell ⟨bb, 1, none⟩ (.map (some (w.heap.size + 1)))) bb (.slice va l.length vc) (some (w.heap.size + 1)) l) := ⟨by rw [set_of ((hb.block _ nbb).trans H0.out.box)]; rfl, ORow.stay (ORow.next H0.out.row hb) o1 (fun b e => by simp; exact (H0.out.apart.1 b e).1), (MD.keep (o1.block _ (by simp; omega) (by simp; omega))).mono (Nat.zero_le _) |>.congr (fun t' => (H0.out.mp t').symm)⟩
  have X1 : Hid (((w1.alloc (.map #[] 0)).setCell ⟨bb, 1, none⟩ (.map (some (w.heap.size + 1)))).heap[w.heap.size]? = some (.cells #[.int .i64 k, .int .i64 n] 29 (0, 0))) := Lib.hid (o1.at ((hb.block _ (heap_lt X0.out)).trans X0.out) (by simp; have := LT.out bb (by simp); omega))
  have MF : Hid (w.heap.size < w.heap.size + 1) := Lib.hid (Nat.lt_succ_self _)
  clear hb o1 nbb H0 X0 MD SZ
  generalize (w1.alloc (.map #[] 0)).setCell ⟨bb, 1, none⟩ (.map (some (w.heap.size + 1))) = wz at *
  generalize w.heap.size + 1 = m at *
  refine wp_region_noPanic ?_
  refine wp_region_held_drew (S := fun w' => w'.heap[bb]? = some (.cells #[.slice va l.length vc, .map (some m)] 27 (0, 0))) (by kernel_rfl) (H1.out.box) (fun hHeld => ?_)
  have hb := (Below.refl wz.heap.size wz).drew
  have H2 := Lib.hid (H1.out.next hb)
  have X2 := Lib.hid ((hb.block _ (heap_lt X1.out)).trans X1.out)
  have O2 := Lib.hid (OO.out.trans (Only.of_below hb))
  clear hb H1 X1 OO
  generalize wz.drew = z0 at *
  refine wpAnyH_take (i := 0) (v := .pointer (some ⟨bb, 0, none⟩)) rfl (by kernel_rfl) (by kernel_rfl) (by kernel_rfl) (fun _ _ _ h => h) (Or.inl ⟨by rfl, fun w hSw => by have e0 := cell_of (j := 0) hSw; have e1 := cell_of (j := 1) hSw; simp at e0 e1; go_simp⟩) (by assumption) ?_
  change wpAnyH _ _ _ _ _ _ _ (Act.put _ (some 26) _) _
  simp only [Act.put, List.setIfInBounds_toArray, List.set_cons_zero, List.set_cons_succ]
  refine wpAnyH_take (i := 1) (v := .pointer (some ⟨bb, 0, none⟩)) rfl (by kernel_rfl) (by kernel_rfl) (by kernel_rfl) (fun _ _ _ h => h) (Or.inl ⟨by rfl, fun w hSw => by have e0 := cell_of (j := 0) hSw; have e1 := cell_of (j := 1) hSw; simp at e0 e1; go_simp⟩) (by assumption) ?_
  change wpAnyH _ _ _ _ _ _ _ (Act.put _ (some 27) _) _
  simp only [Act.put, List.setIfInBounds_toArray, List.set_cons_zero, List.set_cons_succ]
  refine wpAnyH_take (i := 2) (v := .pointer (some ⟨bb, 1, none⟩)) rfl (by kernel_rfl) (by kernel_rfl) (by kernel_rfl) (fun _ _ _ h => h) (Or.inl ⟨by rfl, fun w hSw => by have e0 := cell_of (j := 0) hSw; have e1 := cell_of (j := 1) hSw; simp at e0 e1; go_simp⟩) (by assumption) ?_
  change wpAnyH _ _ _ _ _ _ _ (Act.put _ (some 28) _) _
  simp only [Act.put, List.setIfInBounds_toArray, List.set_cons_zero, List.set_cons_succ]
  refine wpAnyH_take (i := 3) (v := .map (some m)) rfl (by kernel_rfl) (by kernel_rfl) (by kernel_rfl) (fun _ _ _ h => h) (Or.inl ⟨by rfl, fun w hSw => by have e0 := cell_of (j := 0) hSw; have e1 := cell_of (j := 1) hSw; simp at e0 e1; go_simp⟩) (by assumption) ?_
  change wpAnyH _ _ _ _ _ _ _ (Act.put _ (some 29) _) _
  simp only [Act.put, List.setIfInBounds_toArray, List.set_cons_zero, List.set_cons_succ]
  refine wpAnyH_take (i := 4) (v := .int .i64 i) rfl (by kernel_rfl) (by kernel_rfl) (by kernel_rfl) (fun _ _ _ h => h) (Or.inl ⟨by rfl, fun w hSw => by have e0 := cell_of (j := 0) hSw; have e1 := cell_of (j := 1) hSw; simp at e0 e1; go_simp⟩) (by assumption) ?_
  change wpAnyH _ _ _ _ _ _ _ (Act.put _ (some 30) _) _
  simp only [Act.put, List.setIfInBounds_toArray, List.set_cons_zero, List.set_cons_succ]
  refine wpAnyH_take (i := 5) (v := .pointer (some ⟨bb, 0, none⟩)) rfl (by kernel_rfl) (by kernel_rfl) (by kernel_rfl) (fun _ _ _ h => h) (Or.inl ⟨by rfl, fun w hSw => by have e0 := cell_of (j := 0) hSw; have e1 := cell_of (j := 1) hSw; simp at e0 e1; go_simp⟩) (by assumption) ?_
  change wpAnyH _ _ _ _ _ _ _ (Act.put _ (some 31) _) _
  simp only [Act.put, List.setIfInBounds_toArray, List.set_cons_zero, List.set_cons_succ]
  refine wpAnyH_take (i := 6) (v := .pointer (some ⟨bb, 0, none⟩)) rfl (by kernel_rfl) (by kernel_rfl) (by kernel_rfl) (fun _ _ _ h => h) (Or.inl ⟨by rfl, fun w hSw => by have e0 := cell_of (j := 0) hSw; have e1 := cell_of (j := 1) hSw; simp at e0 e1; go_simp⟩) (by assumption) ?_
  change wpAnyH _ _ _ _ _ _ _ (Act.put _ (some 32) _) _
  simp only [Act.put, List.setIfInBounds_toArray, List.set_cons_zero, List.set_cons_succ]
  refine wpAnyH_take (i := 7) (v := .pointer (some ⟨bb, 0, none⟩)) rfl (by kernel_rfl) (by kernel_rfl) (by kernel_rfl) (fun _ _ _ h => h) (Or.inl ⟨by rfl, fun w hSw => by have e0 := cell_of (j := 0) hSw; have e1 := cell_of (j := 1) hSw; simp at e0 e1; go_simp⟩) (by assumption) ?_
  change wpAnyH _ _ _ _ _ _ _ (Act.put _ (some 33) _) _
  simp only [Act.put, List.setIfInBounds_toArray, List.set_cons_zero, List.set_cons_succ]
  refine wpAnyH_take (i := 8) (v := .slice va l.length vc) rfl (by kernel_rfl) (by kernel_rfl) (by kernel_rfl) (fun _ _ _ h => h) (Or.inl ⟨by rfl, fun w hSw => by have e0 := cell_of (j := 0) hSw; have e1 := cell_of (j := 1) hSw; simp at e0 e1; go_simp⟩) (by assumption) ?_
  change wpAnyH _ _ _ _ _ _ _ (Act.put _ (some 34) _) _
  simp only [Act.put, List.setIfInBounds_toArray, List.set_cons_zero, List.set_cons_succ]
  refine wpAnyH_take (i := 9) (v := .int .i64 (l.length : Nat)) rfl (by kernel_rfl) (by kernel_rfl) (by kernel_rfl) (fun _ _ _ h => h) (Or.inl ⟨by rfl, fun w hSw => by have e0 := cell_of (j := 0) hSw; have e1 := cell_of (j := 1) hSw; simp at e0 e1; go_simp⟩) (by assumption) ?_
  change wpAnyH _ _ _ _ _ _ _ (Act.put _ (some 35) _) _
  simp only [Act.put, List.setIfInBounds_toArray, List.set_cons_zero, List.set_cons_succ]
  refine wpAnyH_ready (rs := [10]) (by kernel_rfl) (by simp) ?_
  refine AllReadyH.cons rfl (fun K hK => ?_) (AllReadyH.nil)
  obtain ⟨z1, hup, g1, g2⟩ := MpI.put H2.out.mp i l.length hi (by omega) (by omega)
  have o3 : Only [m] z0 z1 := Only.of_grown g2 (fun b hb => by simp at hb ⊢; exact hb.symm)
  have ap := H2.out.apart
  have nb : bb ≠ m := fun e => ap.2 (by rw [e])
  have K3 := Lib.hid (o3.at H2.out.box (by simpa using nb))
  have R3 : Hid (EvRow z1 (.slice va l.length vc) l) := ORow.stay H2.out.row o3 (fun b e hm => by simp at hm; subst hm; exact (ap.1 b e).2 rfl)
  have M3 := Lib.hid g1
  have X3 := Lib.hid (o3.at X2.out (by simp; exact fun e => by have := MF.out; omega))
  have O3 := Lib.hid (O2.out.trans' o3 (fun b hb => by simp at hb; subst hb; exact .inr (Nat.le_of_lt MF.out)))
  have AP := Lib.hid (And.intro nb ap.1)
  go_simp
  refine hK.out _ _ (K3.out) (fun hHeld1 => ?_)
  clear hK K hup g1 g2 o3 nb ap H2 X2 O2
  refine ⟨by kernel_rfl, ?_⟩
  refine NoPanic.normal ?_
  go_upto_region 6 with fail
  refine wp_region_noPanic ?_
  refine wp_region_held_drew (S := fun w' => w'.heap[w.heap.size]? = some (.cells #[.int .i64 k, .int .i64 n] 29 (0, 0))) (by kernel_rfl) (X3.out) (fun hHeld2 => ?_)
  have hb := (Below.refl z1.heap.size z1).drew
  have K4 := Lib.hid ((hb.block _ (heap_lt K3.out)).trans K3.out)
  have R4 := Lib.hid (ORow.next R3.out hb)
  have M4 := Lib.hid (M3.out.keep (hb.block _ M3.out.lt))
  have X4 := Lib.hid ((hb.block _ (heap_lt X3.out)).trans X3.out)
  have O4 := Lib.hid (O3.out.trans (Only.of_below hb))
  clear hb K3 R3 M3 X3 O3
  generalize z1.drew = z2 at *
  refine wpAnyH_take (i := 0) (v := .pointer (some ⟨bb, 0, none⟩)) rfl (by kernel_rfl) (by kernel_rfl) (by kernel_rfl) (fun _ _ _ h => h) (Or.inl ⟨by rfl, fun w hSw => by have e0 := cell_of (j := 0) hSw; have e1 := cell_of (j := 1) hSw; simp at e0 e1; go_simp⟩) (by assumption) ?_
  change wpAnyH _ _ _ _ _ _ _ (Act.put _ (some 36) _) _
  simp only [Act.put, List.setIfInBounds_toArray, List.set_cons_zero, List.set_cons_succ]
  refine wpAnyH_take (i := 1) (v := .pointer (some ⟨bb, 0, none⟩)) rfl (by kernel_rfl) (by kernel_rfl) (by kernel_rfl) (fun _ _ _ h => h) (Or.inl ⟨by rfl, fun w hSw => by have e0 := cell_of (j := 0) hSw; have e1 := cell_of (j := 1) hSw; simp at e0 e1; go_simp⟩) (by assumption) ?_
  change wpAnyH _ _ _ _ _ _ _ (Act.put _ (some 37) _) _
  simp only [Act.put, List.setIfInBounds_toArray, List.set_cons_zero, List.set_cons_succ]
  refine wpAnyH_take (i := 2) (v := .pointer (some ⟨bb, 0, none⟩)) rfl (by kernel_rfl) (by kernel_rfl) (by kernel_rfl) (fun _ _ _ h => h) (Or.inl ⟨by rfl, fun w hSw => by have e0 := cell_of (j := 0) hSw; have e1 := cell_of (j := 1) hSw; simp at e0 e1; go_simp⟩) (by assumption) ?_
  change wpAnyH _ _ _ _ _ _ _ (Act.put _ (some 38) _) _
  simp only [Act.put, List.setIfInBounds_toArray, List.set_cons_zero, List.set_cons_succ]
  refine wpAnyH_take (i := 3) (v := .pointer (some ⟨bb, 0, none⟩)) rfl (by kernel_rfl) (by kernel_rfl) (by kernel_rfl) (fun _ _ _ h => h) (Or.inl ⟨by rfl, fun w hSw => by have e0 := cell_of (j := 0) hSw; have e1 := cell_of (j := 1) hSw; simp at e0 e1; go_simp⟩) (by assumption) ?_
  change wpAnyH _ _ _ _ _ _ _ (Act.put _ (some 39) _) _
  simp only [Act.put, List.setIfInBounds_toArray, List.set_cons_zero, List.set_cons_succ]
  refine wpAnyH_take (i := 5) (v := .int .i64 i) rfl (by kernel_rfl) (by kernel_rfl) (by kernel_rfl) (fun _ _ _ h => h) (Or.inl ⟨by rfl, fun w hSw => by have e0 := cell_of (j := 0) hSw; have e1 := cell_of (j := 1) hSw; simp at e0 e1; go_simp⟩) (by assumption) ?_
  change wpAnyH _ _ _ _ _ _ _ (Act.put _ (some 41) _) _
  simp only [Act.put, List.setIfInBounds_toArray, List.set_cons_zero, List.set_cons_succ]
  refine wpAnyH_take (i := 6) (v := .agg #[.int .i64 k, .int .i64 n]) rfl (by kernel_rfl) (by kernel_rfl) (by kernel_rfl) (fun _ _ _ h => h) (Or.inl ⟨by rfl, fun w hSw => by have e0 := cell_of (j := 0) hSw; have e1 := cell_of (j := 1) hSw; simp at e0 e1; go_simp⟩) (by assumption) ?_
  change wpAnyH _ _ _ _ _ _ _ (Act.put _ (some 42) _) _
  simp only [Act.put, List.setIfInBounds_toArray, List.set_cons_zero, List.set_cons_succ]
  refine wpAnyH_take (i := 7) (v := .int .i64 t) rfl (by kernel_rfl) (by kernel_rfl) (by kernel_rfl) (fun _ _ _ h => h) (Or.inl ⟨by rfl, fun w hSw => by have e0 := cell_of (j := 0) hSw; have e1 := cell_of (j := 1) hSw; simp at e0 e1; go_simp⟩) (by assumption) ?_
  change wpAnyH _ _ _ _ _ _ _ (Act.put _ (some 43) _) _
  simp only [Act.put, List.setIfInBounds_toArray, List.set_cons_zero, List.set_cons_succ]
  refine wpAnyH_take (i := 8) (v := .agg #[.int .i64 i, .int .i64 k, .int .i64 n, .int .i64 0, .int .i64 0, .int .i64 0, .int .i64 t, .int .i64 0, .int .i64 0]) rfl (by kernel_rfl) (by kernel_rfl) (by kernel_rfl) (fun _ _ _ h => h) (Or.inl ⟨by rfl, fun w hSw => by have e0 := cell_of (j := 0) hSw; have e1 := cell_of (j := 1) hSw; simp at e0 e1; go_simp⟩) (by assumption) ?_
  change wpAnyH _ _ _ _ _ _ _ (Act.put _ (some 44) _) _
  simp only [Act.put, List.setIfInBounds_toArray, List.set_cons_zero, List.set_cons_succ]
  refine wpAnyH_ready (rs := [4, 9]) (by kernel_rfl) (by simp) ?_
  refine AllReadyH.cons rfl (fun K hK => ?_) (AllReadyH.cons rfl (fun K hK => ?_) (AllReadyH.nil))
  · have d0 : z2.cell? ⟨bb, 0, none⟩ = some (.slice va l.length vc) := by rw [cell_of K4.out]; rfl
    go_simp
    refine hK.out _ _ (X4.out) (fun hHeld3 => ?_)
    clear hK K d0
    refine wpAnyH_ready (rs := [9]) (by kernel_rfl) (by simp) ?_
    refine AllReadyH.cons rfl (fun K hK => ?_) (AllReadyH.nil)
    go_simp
    have hb := box1 z2 (.cells #[.int .i64 i, .int .i64 k, .int .i64 n, .int .i64 0, .int .i64 0, .int .i64 0, .int .i64 t, .int .i64 0, .int .i64 0] 38)
    have TB : Hid ((z2.alloc (.cells #[.int .i64 i, .int .i64 k, .int .i64 n, .int .i64 0, .int .i64 0, .int .i64 0, .int .i64 t, .int .i64 0, .int .i64 0] 38)).heap[z2.heap.size]? = some (.cells (evE (evNew i k n t)).toArray 38 (0, 0))) := heap_new z2 _
    have K5 := Lib.hid ((hb.block _ (heap_lt K4.out)).trans K4.out)
    have R5 := Lib.hid (ORow.next R4.out hb)
    have M5 := Lib.hid (M4.out.keep (hb.block _ M4.out.lt))
    have X5 := Lib.hid ((hb.block _ (heap_lt X4.out)).trans X4.out)
    have O5 := Lib.hid (O4.out.trans (Only.of_below hb))
    clear hb K4 R4 M4 X4 O4
    refine hK.out _ _ (X5.out) (fun hHeld4 => ?_)
    clear hK K
    generalize z2.alloc (.cells #[.int .i64 i, .int .i64 k, .int .i64 n, .int .i64 0, .int .i64 0, .int .i64 0, .int .i64 t, .int .i64 0, .int .i64 0] 38) = z3 at *
    generalize z2.heap.size = Q at *
    refine wpAnyH_ready (rs := [10]) (by kernel_rfl) (by simp) ?_
    refine AllReadyH.cons rfl (fun K hK => ?_) (AllReadyH.nil)
    obtain ⟨v', z4, hrun, g1, g2, g3, bq, cq, hvq⟩ := EvRow.app (vb := Q) (x := evNew i k n t) R5.out TB.out (by omega) 24
    refine step_append_run rfl _ _ 24 24 rfl _ _ (by simp [Act.eval]) (by simp [Act.eval]) hrun ?_
    have o6 : Only (Value.slice va l.length vc).ownBlock.toList z3 z4 := Only.of_grown g2 (fun b hb => by simp [hb])
    have K6 := Lib.hid (o6.at K5.out (fun hm => (AP.out.2 bb (by simpa using hm)).1 rfl))
    have M6 := Lib.hid (M5.out.keep (o6.block _ M5.out.lt (fun hm => (AP.out.2 m (by simpa using hm)).2 rfl)))
    have X6 := Lib.hid (o6.at X5.out (fun hm => by have := LT.out w.heap.size (by simp [foot] at hm ⊢; simp [hm]); omega))
    have R6 := Lib.hid g1
    have V6 : Hid (∀ b, v'.ownBlock = some b → (Value.slice va l.length vc).ownBlock = some b ∨ b = z3.heap.size) := Lib.hid (fun b e => by
      rcases g3 with q | q
      · rw [q] at e; exact .inl e
      · rw [q] at e; cases e; exact .inr rfl)
    have O6 := Lib.hid (O5.out.trans' o6 (fun b hb => .inl (by simp only [foot, List.mem_cons, List.mem_append]; exact .inr (.inl hb))))
    have NB6 : Hid (bb < z3.heap.size ∧ m < z3.heap.size ∧ w.heap.size ≤ z3.heap.size) := Lib.hid ⟨heap_lt K5.out, M5.out.lt, O5.out.size⟩
    subst hvq
    refine hK.out _ _ (X6.out) (fun hHeld5 => ?_)
    clear hK K hrun g1 g2 g3 o6 K5 M5 X5 O5 R5
    change wpAnyH _ _ _ _ _ _ _ (Act.put _ (some 46) _) _
    simp only [Act.put, List.setIfInBounds_toArray, List.set_cons_zero, List.set_cons_succ]
    refine wpAnyH_take (i := 11) (v := .pointer (some ⟨bb, 0, none⟩)) rfl (by kernel_rfl) (by kernel_rfl) (by kernel_rfl) (fun _ _ _ h => h) (Or.inl ⟨by rfl, fun w hSw => by have e0 := cell_of (j := 0) hSw; have e1 := cell_of (j := 1) hSw; simp at e0 e1; go_simp⟩) (by assumption) ?_
    change wpAnyH _ _ _ _ _ _ _ (Act.put _ (some 47) _) _
    simp only [Act.put, List.setIfInBounds_toArray, List.set_cons_zero, List.set_cons_succ]
    refine wpAnyH_take (i := 12) (v := .pointer (some ⟨bb, 0, none⟩)) rfl (by kernel_rfl) (by kernel_rfl) (by kernel_rfl) (fun _ _ _ h => h) (Or.inl ⟨by rfl, fun w hSw => by have e0 := cell_of (j := 0) hSw; have e1 := cell_of (j := 1) hSw; simp at e0 e1; go_simp⟩) (by assumption) ?_
    change wpAnyH _ _ _ _ _ _ _ (Act.put _ (some 48) _) _
    simp only [Act.put, List.setIfInBounds_toArray, List.set_cons_zero, List.set_cons_succ]
    refine wpAnyH_ready (rs := [13]) (by kernel_rfl) (by simp) ?_
    refine AllReadyH.cons rfl (fun K hK => ?_) (AllReadyH.nil)
    have d0 : z4.cell? ⟨bb, 0, none⟩ = some (.slice va l.length vc) := by rw [cell_of K6.out]; rfl
    have ff := frozen_of (j := 0) K6.out
    have o7 : Only [bb] z4 (z4.setCell ⟨bb, 0, none⟩ (.slice (some ⟨bq, 0, none⟩) (l.length + 1) cq)) := Only.of_set (by simp) _
    have K7 : Hid ((z4.setCell ⟨bb, 0, none⟩ (.slice (some ⟨bq, 0, none⟩) (l.length + 1) cq)).heap[bb]? = some (.cells #[.slice (some ⟨bq, 0, none⟩) (l.length + 1) cq, .map (some m)] 27 (0, 0))) := by
      show _ = _
      rw [set_of K6.out]
      rfl
    have X7 := Lib.hid (o7.at X6.out (by simp; have := LT.out bb (by simp); omega))
    have bq6 : bq ≠ bb := fun e => by rcases V6.out bq rfl with q | q; exact (AP.out.2 bq q).1 e; have := NB6.out.1; omega
    have R7 : Hid (EvRow _ _ _) := ORow.stay R6.out o7 (fun b e => by cases e; simpa using bq6)
    have M7 := Lib.hid (M6.out.keep (o7.block _ M6.out.lt (by simp; exact fun e => AP.out.1 e.symm)))
    have O7 := Lib.hid (O6.out.trans' o7 (fun b hb => .inl (by simp at hb; subst hb; simp)))
    go_simp
    refine hK.out _ _ (X7.out) (fun hHeld6 => ?_)
    clear hK K d0 ff o7
    refine ⟨by kernel_rfl, ?_⟩
    refine NoPanic.normal ?_
    go_wp2_with fail
    go_ret
    refine ⟨rfl, _, some m, ⟨K7.out, R7.out, ?_⟩, ?_, fun b hb => ?_⟩
    · rw [List.length_append, List.length_singleton]
      exact M7.out.congr (fun t' => by
        rw [findI_app]
        show _ = if i = t' then (if (0 : Int) = 0 then some l.length else none) else findI l t'
        by_cases e : t' = i
        · subst e; simp
        · rw [if_neg e, if_neg (fun q => e q.symm)])
    · exact O7.out
    · simp only [foot, List.mem_append, Option.mem_toList] at hb
      rcases hb with e | e
      · rcases V6.out b e with q | q
        · exact .inl (by simp [foot, q])
        · exact .inr (by have := NB6.out.2.2; omega)
      · cases e
        exact .inr (Nat.le_of_lt MF.out)
  · go_simp
    have hb := box1 z2 (.cells #[.int .i64 i, .int .i64 k, .int .i64 n, .int .i64 0, .int .i64 0, .int .i64 0, .int .i64 t, .int .i64 0, .int .i64 0] 38)
    have TB : Hid ((z2.alloc (.cells #[.int .i64 i, .int .i64 k, .int .i64 n, .int .i64 0, .int .i64 0, .int .i64 0, .int .i64 t, .int .i64 0, .int .i64 0] 38)).heap[z2.heap.size]? = some (.cells (evE (evNew i k n t)).toArray 38 (0, 0))) := heap_new z2 _
    have K5 := Lib.hid ((hb.block _ (heap_lt K4.out)).trans K4.out)
    have R5 := Lib.hid (ORow.next R4.out hb)
    have M5 := Lib.hid (M4.out.keep (hb.block _ M4.out.lt))
    have X5 := Lib.hid ((hb.block _ (heap_lt X4.out)).trans X4.out)
    have O5 := Lib.hid (O4.out.trans (Only.of_below hb))
    clear hb K4 R4 M4 X4 O4
    refine hK.out _ _ (X5.out) (fun hHeld4 => ?_)
    clear hK K
    generalize z2.alloc (.cells #[.int .i64 i, .int .i64 k, .int .i64 n, .int .i64 0, .int .i64 0, .int .i64 0, .int .i64 t, .int .i64 0, .int .i64 0] 38) = z3 at *
    generalize z2.heap.size = Q at *
    refine wpAnyH_ready (rs := [4]) (by kernel_rfl) (by simp) ?_
    refine AllReadyH.cons rfl (fun K hK => ?_) (AllReadyH.nil)
    have d0 : z3.cell? ⟨bb, 0, none⟩ = some (.slice va l.length vc) := by rw [cell_of K5.out]; rfl
    go_simp
    refine hK.out _ _ (X5.out) (fun hHeld3 => ?_)
    clear hK K d0
    refine wpAnyH_ready (rs := [10]) (by kernel_rfl) (by simp) ?_
    refine AllReadyH.cons rfl (fun K hK => ?_) (AllReadyH.nil)
    obtain ⟨v', z4, hrun, g1, g2, g3, bq, cq, hvq⟩ := EvRow.app (vb := Q) (x := evNew i k n t) R5.out TB.out (by omega) 24
    refine step_append_run rfl _ _ 24 24 rfl _ _ (by simp [Act.eval]) (by simp [Act.eval]) hrun ?_
    have o6 : Only (Value.slice va l.length vc).ownBlock.toList z3 z4 := Only.of_grown g2 (fun b hb => by simp [hb])
    have K6 := Lib.hid (o6.at K5.out (fun hm => (AP.out.2 bb (by simpa using hm)).1 rfl))
    have M6 := Lib.hid (M5.out.keep (o6.block _ M5.out.lt (fun hm => (AP.out.2 m (by simpa using hm)).2 rfl)))
    have X6 := Lib.hid (o6.at X5.out (fun hm => by have := LT.out w.heap.size (by simp [foot] at hm ⊢; simp [hm]); omega))
    have R6 := Lib.hid g1
    have V6 : Hid (∀ b, v'.ownBlock = some b → (Value.slice va l.length vc).ownBlock = some b ∨ b = z3.heap.size) := Lib.hid (fun b e => by
      rcases g3 with q | q
      · rw [q] at e; exact .inl e
      · rw [q] at e; cases e; exact .inr rfl)
    have O6 := Lib.hid (O5.out.trans' o6 (fun b hb => .inl (by simp only [foot, List.mem_cons, List.mem_append]; exact .inr (.inl hb))))
    have NB6 : Hid (bb < z3.heap.size ∧ m < z3.heap.size ∧ w.heap.size ≤ z3.heap.size) := Lib.hid ⟨heap_lt K5.out, M5.out.lt, O5.out.size⟩
    subst hvq
    refine hK.out _ _ (X6.out) (fun hHeld5 => ?_)
    clear hK K hrun g1 g2 g3 o6 K5 M5 X5 O5 R5
    change wpAnyH _ _ _ _ _ _ _ (Act.put _ (some 46) _) _
    simp only [Act.put, List.setIfInBounds_toArray, List.set_cons_zero, List.set_cons_succ]
    refine wpAnyH_take (i := 11) (v := .pointer (some ⟨bb, 0, none⟩)) rfl (by kernel_rfl) (by kernel_rfl) (by kernel_rfl) (fun _ _ _ h => h) (Or.inl ⟨by rfl, fun w hSw => by have e0 := cell_of (j := 0) hSw; have e1 := cell_of (j := 1) hSw; simp at e0 e1; go_simp⟩) (by assumption) ?_
    change wpAnyH _ _ _ _ _ _ _ (Act.put _ (some 47) _) _
    simp only [Act.put, List.setIfInBounds_toArray, List.set_cons_zero, List.set_cons_succ]
    refine wpAnyH_take (i := 12) (v := .pointer (some ⟨bb, 0, none⟩)) rfl (by kernel_rfl) (by kernel_rfl) (by kernel_rfl) (fun _ _ _ h => h) (Or.inl ⟨by rfl, fun w hSw => by have e0 := cell_of (j := 0) hSw; have e1 := cell_of (j := 1) hSw; simp at e0 e1; go_simp⟩) (by assumption) ?_
    change wpAnyH _ _ _ _ _ _ _ (Act.put _ (some 48) _) _
    simp only [Act.put, List.setIfInBounds_toArray, List.set_cons_zero, List.set_cons_succ]
    refine wpAnyH_ready (rs := [13]) (by kernel_rfl) (by simp) ?_
    refine AllReadyH.cons rfl (fun K hK => ?_) (AllReadyH.nil)
    have d0 : z4.cell? ⟨bb, 0, none⟩ = some (.slice va l.length vc) := by rw [cell_of K6.out]; rfl
    have ff := frozen_of (j := 0) K6.out
    have o7 : Only [bb] z4 (z4.setCell ⟨bb, 0, none⟩ (.slice (some ⟨bq, 0, none⟩) (l.length + 1) cq)) := Only.of_set (by simp) _
    have K7 : Hid ((z4.setCell ⟨bb, 0, none⟩ (.slice (some ⟨bq, 0, none⟩) (l.length + 1) cq)).heap[bb]? = some (.cells #[.slice (some ⟨bq, 0, none⟩) (l.length + 1) cq, .map (some m)] 27 (0, 0))) := by
      show _ = _
      rw [set_of K6.out]
      rfl
    have X7 := Lib.hid (o7.at X6.out (by simp; have := LT.out bb (by simp); omega))
    have bq6 : bq ≠ bb := fun e => by rcases V6.out bq rfl with q | q; exact (AP.out.2 bq q).1 e; have := NB6.out.1; omega
    have R7 : Hid (EvRow _ _ _) := ORow.stay R6.out o7 (fun b e => by cases e; simpa using bq6)
    have M7 := Lib.hid (M6.out.keep (o7.block _ M6.out.lt (by simp; exact fun e => AP.out.1 e.symm)))
    have O7 := Lib.hid (O6.out.trans' o7 (fun b hb => .inl (by simp at hb; subst hb; simp)))
    go_simp
    refine hK.out _ _ (X7.out) (fun hHeld6 => ?_)
    clear hK K d0 ff o7
    refine ⟨by kernel_rfl, ?_⟩
    refine NoPanic.normal ?_
    go_wp2_with fail
    go_ret
    refine ⟨rfl, _, some m, ⟨K7.out, R7.out, ?_⟩, ?_, fun b hb => ?_⟩
    · rw [List.length_append, List.length_singleton]
      exact M7.out.congr (fun t' => by
        rw [findI_app]
        show _ = if i = t' then (if (0 : Int) = 0 then some l.length else none) else findI l t'
        by_cases e : t' = i
        · subst e; simp
        · rw [if_neg e, if_neg (fun q => e q.symm)])
    · exact O7.out
    · simp only [foot, List.mem_append, Option.mem_toList] at hb
      rcases hb with e | e
      · rcases V6.out b e with q | q
        · exact .inl (by simp [foot, q])
        · exact .inr (by have := NB6.out.2.2; omega)
      · cases e
        exact .inr (Nat.le_of_lt MF.out)
set_option maxRecDepth 20000 in
set_option maxHeartbeats 4000000 in
theorem nbegin_some (m : Nat) (i k n t : Int) (w : World) (h : Hid (Bn w bb v (some m) l)) (hi : (Lit.int .i64 i).wf = true) (hf : findI l i = none) (few : l.length ≤ 100000) :
    Calls Try.prog 7 #[.pointer (some ⟨bb, 0, none⟩), .int .i64 i, .agg #[.int .i64 k, .int .i64 n], .int .i64 t] w fun e w' => e = .returned (.bool true) ∧ Tn bb v (some m) w (l ++ [evNew i k n t]) w' := by
  have hb := box1 w (.cells #[.int .i64 k, .int .i64 n] 29)
  have X0 : Hid ((w.alloc (.cells #[.int .i64 k, .int .i64 n] 29)).heap[w.heap.size]? = some (.cells #[.int .i64 k, .int .i64 n] 29 (0, 0))) := heap_new w _
  have H0 := Lib.hid (h.out.next hb)
  have B0 := Lib.hid hb
  have LT := Lib.hid h.out.lt
  clear hb
  obtain ⟨va, vc, rfl⟩ := ORow.form h.out.row
  have DO := Lib.hid (doing_none bb _ _ l i _ H0 hi hf)
  have c1 := H0.out.cells.2
  have q := some_map_eq m
  go_enter Try.func7, Try.ntmps7
  go_wp2_with fail
  refine DO.out.mono ?_
  rintro e w' ⟨rfl, rfl⟩
  clear DO
  go_upto_region 5 with fail
  clear c1 q
  generalize hw1 : w.alloc (.cells #[.int .i64 k, .int .i64 n] 29) = wz at *
  have OO : Hid (Only (bb :: foot (.slice va l.length vc) (some m)) w wz) := Only.of_below B0.out
  have H1 := H0
  have X1 := X0
  clear H0 X0
  refine wp_region_noPanic ?_
  refine wp_region_held_drew (S := fun w' => w'.heap[bb]? = some (.cells #[.slice va l.length vc, .map (some m)] 27 (0, 0))) (by kernel_rfl) (H1.out.box) (fun hHeld => ?_)
  have hb := (Below.refl wz.heap.size wz).drew
  have H2 := Lib.hid (H1.out.next hb)
  have X2 := Lib.hid ((hb.block _ (heap_lt X1.out)).trans X1.out)
  have O2 := Lib.hid (OO.out.trans (Only.of_below hb))
  clear hb H1 X1 OO
  generalize wz.drew = z0 at *
  refine wpAnyH_take (i := 0) (v := .pointer (some ⟨bb, 0, none⟩)) rfl (by kernel_rfl) (by kernel_rfl) (by kernel_rfl) (fun _ _ _ h => h) (Or.inl ⟨by rfl, fun w hSw => by have e0 := cell_of (j := 0) hSw; have e1 := cell_of (j := 1) hSw; simp at e0 e1; go_simp⟩) (by assumption) ?_
  change wpAnyH _ _ _ _ _ _ _ (Act.put _ (some 26) _) _
  simp only [Act.put, List.setIfInBounds_toArray, List.set_cons_zero, List.set_cons_succ]
  refine wpAnyH_take (i := 1) (v := .pointer (some ⟨bb, 0, none⟩)) rfl (by kernel_rfl) (by kernel_rfl) (by kernel_rfl) (fun _ _ _ h => h) (Or.inl ⟨by rfl, fun w hSw => by have e0 := cell_of (j := 0) hSw; have e1 := cell_of (j := 1) hSw; simp at e0 e1; go_simp⟩) (by assumption) ?_
  change wpAnyH _ _ _ _ _ _ _ (Act.put _ (some 27) _) _
  simp only [Act.put, List.setIfInBounds_toArray, List.set_cons_zero, List.set_cons_succ]
  refine wpAnyH_take (i := 2) (v := .pointer (some ⟨bb, 1, none⟩)) rfl (by kernel_rfl) (by kernel_rfl) (by kernel_rfl) (fun _ _ _ h => h) (Or.inl ⟨by rfl, fun w hSw => by have e0 := cell_of (j := 0) hSw; have e1 := cell_of (j := 1) hSw; simp at e0 e1; go_simp⟩) (by assumption) ?_
  change wpAnyH _ _ _ _ _ _ _ (Act.put _ (some 28) _) _
  simp only [Act.put, List.setIfInBounds_toArray, List.set_cons_zero, List.set_cons_succ]
  refine wpAnyH_take (i := 3) (v := .map (some m)) rfl (by kernel_rfl) (by kernel_rfl) (by kernel_rfl) (fun _ _ _ h => h) (Or.inl ⟨by rfl, fun w hSw => by have e0 := cell_of (j := 0) hSw; have e1 := cell_of (j := 1) hSw; simp at e0 e1; go_simp⟩) (by assumption) ?_
  change wpAnyH _ _ _ _ _ _ _ (Act.put _ (some 29) _) _
  simp only [Act.put, List.setIfInBounds_toArray, List.set_cons_zero, List.set_cons_succ]
  refine wpAnyH_take (i := 4) (v := .int .i64 i) rfl (by kernel_rfl) (by kernel_rfl) (by kernel_rfl) (fun _ _ _ h => h) (Or.inl ⟨by rfl, fun w hSw => by have e0 := cell_of (j := 0) hSw; have e1 := cell_of (j := 1) hSw; simp at e0 e1; go_simp⟩) (by assumption) ?_
  change wpAnyH _ _ _ _ _ _ _ (Act.put _ (some 30) _) _
  simp only [Act.put, List.setIfInBounds_toArray, List.set_cons_zero, List.set_cons_succ]
  refine wpAnyH_take (i := 5) (v := .pointer (some ⟨bb, 0, none⟩)) rfl (by kernel_rfl) (by kernel_rfl) (by kernel_rfl) (fun _ _ _ h => h) (Or.inl ⟨by rfl, fun w hSw => by have e0 := cell_of (j := 0) hSw; have e1 := cell_of (j := 1) hSw; simp at e0 e1; go_simp⟩) (by assumption) ?_
  change wpAnyH _ _ _ _ _ _ _ (Act.put _ (some 31) _) _
  simp only [Act.put, List.setIfInBounds_toArray, List.set_cons_zero, List.set_cons_succ]
  refine wpAnyH_take (i := 6) (v := .pointer (some ⟨bb, 0, none⟩)) rfl (by kernel_rfl) (by kernel_rfl) (by kernel_rfl) (fun _ _ _ h => h) (Or.inl ⟨by rfl, fun w hSw => by have e0 := cell_of (j := 0) hSw; have e1 := cell_of (j := 1) hSw; simp at e0 e1; go_simp⟩) (by assumption) ?_
  change wpAnyH _ _ _ _ _ _ _ (Act.put _ (some 32) _) _
  simp only [Act.put, List.setIfInBounds_toArray, List.set_cons_zero, List.set_cons_succ]
  refine wpAnyH_take (i := 7) (v := .pointer (some ⟨bb, 0, none⟩)) rfl (by kernel_rfl) (by kernel_rfl) (by kernel_rfl) (fun _ _ _ h => h) (Or.inl ⟨by rfl, fun w hSw => by have e0 := cell_of (j := 0) hSw; have e1 := cell_of (j := 1) hSw; simp at e0 e1; go_simp⟩) (by assumption) ?_
  change wpAnyH _ _ _ _ _ _ _ (Act.put _ (some 33) _) _
  simp only [Act.put, List.setIfInBounds_toArray, List.set_cons_zero, List.set_cons_succ]
  refine wpAnyH_take (i := 8) (v := .slice va l.length vc) rfl (by kernel_rfl) (by kernel_rfl) (by kernel_rfl) (fun _ _ _ h => h) (Or.inl ⟨by rfl, fun w hSw => by have e0 := cell_of (j := 0) hSw; have e1 := cell_of (j := 1) hSw; simp at e0 e1; go_simp⟩) (by assumption) ?_
  change wpAnyH _ _ _ _ _ _ _ (Act.put _ (some 34) _) _
  simp only [Act.put, List.setIfInBounds_toArray, List.set_cons_zero, List.set_cons_succ]
  refine wpAnyH_take (i := 9) (v := .int .i64 (l.length : Nat)) rfl (by kernel_rfl) (by kernel_rfl) (by kernel_rfl) (fun _ _ _ h => h) (Or.inl ⟨by rfl, fun w hSw => by have e0 := cell_of (j := 0) hSw; have e1 := cell_of (j := 1) hSw; simp at e0 e1; go_simp⟩) (by assumption) ?_
  change wpAnyH _ _ _ _ _ _ _ (Act.put _ (some 35) _) _
  simp only [Act.put, List.setIfInBounds_toArray, List.set_cons_zero, List.set_cons_succ]
  refine wpAnyH_ready (rs := [10]) (by kernel_rfl) (by simp) ?_
  refine AllReadyH.cons rfl (fun K hK => ?_) (AllReadyH.nil)
  obtain ⟨z1, hup, g1, g2⟩ := MpI.put H2.out.mp i l.length hi (by omega) (by omega)
  have o3 : Only [m] z0 z1 := Only.of_grown g2 (fun b hb => by simp at hb ⊢; exact hb.symm)
  have ap := H2.out.apart
  have nb : bb ≠ m := fun e => ap.2 (by rw [e])
  have K3 := Lib.hid (o3.at H2.out.box (by simpa using nb))
  have R3 : Hid (EvRow z1 (.slice va l.length vc) l) := ORow.stay H2.out.row o3 (fun b e hm => by simp at hm; subst hm; exact (ap.1 b e).2 rfl)
  have M3 := Lib.hid g1
  have X3 := Lib.hid (o3.at X2.out (by simp; exact fun e => by have := LT.out m (by simp [foot]); omega))
  have O3 := Lib.hid (O2.out.trans' o3 (fun b hb => by simp at hb; subst hb; exact .inl (by simp [foot])))
  have AP := Lib.hid (And.intro nb ap.1)
  go_simp
  refine hK.out _ _ (K3.out) (fun hHeld1 => ?_)
  clear hK K hup g1 g2 o3 nb ap H2 X2 O2
  refine ⟨by kernel_rfl, ?_⟩
  refine NoPanic.normal ?_
  go_upto_region 6 with fail
  refine wp_region_noPanic ?_
  refine wp_region_held_drew (S := fun w' => w'.heap[w.heap.size]? = some (.cells #[.int .i64 k, .int .i64 n] 29 (0, 0))) (by kernel_rfl) (X3.out) (fun hHeld2 => ?_)
  have hb := (Below.refl z1.heap.size z1).drew
  have K4 := Lib.hid ((hb.block _ (heap_lt K3.out)).trans K3.out)
  have R4 := Lib.hid (ORow.next R3.out hb)
  have M4 := Lib.hid (M3.out.keep (hb.block _ M3.out.lt))
  have X4 := Lib.hid ((hb.block _ (heap_lt X3.out)).trans X3.out)
  have O4 := Lib.hid (O3.out.trans (Only.of_below hb))
  clear hb K3 R3 M3 X3 O3
  generalize z1.drew = z2 at *
  refine wpAnyH_take (i := 0) (v := .pointer (some ⟨bb, 0, none⟩)) rfl (by kernel_rfl) (by kernel_rfl) (by kernel_rfl) (fun _ _ _ h => h) (Or.inl ⟨by rfl, fun w hSw => by have e0 := cell_of (j := 0) hSw; have e1 := cell_of (j := 1) hSw; simp at e0 e1; go_simp⟩) (by assumption) ?_
  change wpAnyH _ _ _ _ _ _ _ (Act.put _ (some 36) _) _
  simp only [Act.put, List.setIfInBounds_toArray, List.set_cons_zero, List.set_cons_succ]
  refine wpAnyH_take (i := 1) (v := .pointer (some ⟨bb, 0, none⟩)) rfl (by kernel_rfl) (by kernel_rfl) (by kernel_rfl) (fun _ _ _ h => h) (Or.inl ⟨by rfl, fun w hSw => by have e0 := cell_of (j := 0) hSw; have e1 := cell_of (j := 1) hSw; simp at e0 e1; go_simp⟩) (by assumption) ?_
  change wpAnyH _ _ _ _ _ _ _ (Act.put _ (some 37) _) _
  simp only [Act.put, List.setIfInBounds_toArray, List.set_cons_zero, List.set_cons_succ]
  refine wpAnyH_take (i := 2) (v := .pointer (some ⟨bb, 0, none⟩)) rfl (by kernel_rfl) (by kernel_rfl) (by kernel_rfl) (fun _ _ _ h => h) (Or.inl ⟨by rfl, fun w hSw => by have e0 := cell_of (j := 0) hSw; have e1 := cell_of (j := 1) hSw; simp at e0 e1; go_simp⟩) (by assumption) ?_
  change wpAnyH _ _ _ _ _ _ _ (Act.put _ (some 38) _) _
  simp only [Act.put, List.setIfInBounds_toArray, List.set_cons_zero, List.set_cons_succ]
  refine wpAnyH_take (i := 3) (v := .pointer (some ⟨bb, 0, none⟩)) rfl (by kernel_rfl) (by kernel_rfl) (by kernel_rfl) (fun _ _ _ h => h) (Or.inl ⟨by rfl, fun w hSw => by have e0 := cell_of (j := 0) hSw; have e1 := cell_of (j := 1) hSw; simp at e0 e1; go_simp⟩) (by assumption) ?_
  change wpAnyH _ _ _ _ _ _ _ (Act.put _ (some 39) _) _
  simp only [Act.put, List.setIfInBounds_toArray, List.set_cons_zero, List.set_cons_succ]
  refine wpAnyH_take (i := 5) (v := .int .i64 i) rfl (by kernel_rfl) (by kernel_rfl) (by kernel_rfl) (fun _ _ _ h => h) (Or.inl ⟨by rfl, fun w hSw => by have e0 := cell_of (j := 0) hSw; have e1 := cell_of (j := 1) hSw; simp at e0 e1; go_simp⟩) (by assumption) ?_
  change wpAnyH _ _ _ _ _ _ _ (Act.put _ (some 41) _) _
  simp only [Act.put, List.setIfInBounds_toArray, List.set_cons_zero, List.set_cons_succ]
  refine wpAnyH_take (i := 6) (v := .agg #[.int .i64 k, .int .i64 n]) rfl (by kernel_rfl) (by kernel_rfl) (by kernel_rfl) (fun _ _ _ h => h) (Or.inl ⟨by rfl, fun w hSw => by have e0 := cell_of (j := 0) hSw; have e1 := cell_of (j := 1) hSw; simp at e0 e1; go_simp⟩) (by assumption) ?_
  change wpAnyH _ _ _ _ _ _ _ (Act.put _ (some 42) _) _
  simp only [Act.put, List.setIfInBounds_toArray, List.set_cons_zero, List.set_cons_succ]
  refine wpAnyH_take (i := 7) (v := .int .i64 t) rfl (by kernel_rfl) (by kernel_rfl) (by kernel_rfl) (fun _ _ _ h => h) (Or.inl ⟨by rfl, fun w hSw => by have e0 := cell_of (j := 0) hSw; have e1 := cell_of (j := 1) hSw; simp at e0 e1; go_simp⟩) (by assumption) ?_
  change wpAnyH _ _ _ _ _ _ _ (Act.put _ (some 43) _) _
  simp only [Act.put, List.setIfInBounds_toArray, List.set_cons_zero, List.set_cons_succ]
  refine wpAnyH_take (i := 8) (v := .agg #[.int .i64 i, .int .i64 k, .int .i64 n, .int .i64 0, .int .i64 0, .int .i64 0, .int .i64 t, .int .i64 0, .int .i64 0]) rfl (by kernel_rfl) (by kernel_rfl) (by kernel_rfl) (fun _ _ _ h => h) (Or.inl ⟨by rfl, fun w hSw => by have e0 := cell_of (j := 0) hSw; have e1 := cell_of (j := 1) hSw; simp at e0 e1; go_simp⟩) (by assumption) ?_
  change wpAnyH _ _ _ _ _ _ _ (Act.put _ (some 44) _) _
  simp only [Act.put, List.setIfInBounds_toArray, List.set_cons_zero, List.set_cons_succ]
  refine wpAnyH_ready (rs := [4, 9]) (by kernel_rfl) (by simp) ?_
  refine AllReadyH.cons rfl (fun K hK => ?_) (AllReadyH.cons rfl (fun K hK => ?_) (AllReadyH.nil))
  · have d0 : z2.cell? ⟨bb, 0, none⟩ = some (.slice va l.length vc) := by rw [cell_of K4.out]; rfl
    go_simp
    refine hK.out _ _ (X4.out) (fun hHeld3 => ?_)
    clear hK K d0
    refine wpAnyH_ready (rs := [9]) (by kernel_rfl) (by simp) ?_
    refine AllReadyH.cons rfl (fun K hK => ?_) (AllReadyH.nil)
    go_simp
    have hb := box1 z2 (.cells #[.int .i64 i, .int .i64 k, .int .i64 n, .int .i64 0, .int .i64 0, .int .i64 0, .int .i64 t, .int .i64 0, .int .i64 0] 38)
    have TB : Hid ((z2.alloc (.cells #[.int .i64 i, .int .i64 k, .int .i64 n, .int .i64 0, .int .i64 0, .int .i64 0, .int .i64 t, .int .i64 0, .int .i64 0] 38)).heap[z2.heap.size]? = some (.cells (evE (evNew i k n t)).toArray 38 (0, 0))) := heap_new z2 _
    have K5 := Lib.hid ((hb.block _ (heap_lt K4.out)).trans K4.out)
    have R5 := Lib.hid (ORow.next R4.out hb)
    have M5 := Lib.hid (M4.out.keep (hb.block _ M4.out.lt))
    have X5 := Lib.hid ((hb.block _ (heap_lt X4.out)).trans X4.out)
    have O5 := Lib.hid (O4.out.trans (Only.of_below hb))
    clear hb K4 R4 M4 X4 O4
    refine hK.out _ _ (X5.out) (fun hHeld4 => ?_)
    clear hK K
    generalize z2.alloc (.cells #[.int .i64 i, .int .i64 k, .int .i64 n, .int .i64 0, .int .i64 0, .int .i64 0, .int .i64 t, .int .i64 0, .int .i64 0] 38) = z3 at *
    generalize z2.heap.size = Q at *
    refine wpAnyH_ready (rs := [10]) (by kernel_rfl) (by simp) ?_
    refine AllReadyH.cons rfl (fun K hK => ?_) (AllReadyH.nil)
    obtain ⟨v', z4, hrun, g1, g2, g3, bq, cq, hvq⟩ := EvRow.app (vb := Q) (x := evNew i k n t) R5.out TB.out (by omega) 24
    refine step_append_run rfl _ _ 24 24 rfl _ _ (by simp [Act.eval]) (by simp [Act.eval]) hrun ?_
    have o6 : Only (Value.slice va l.length vc).ownBlock.toList z3 z4 := Only.of_grown g2 (fun b hb => by simp [hb])
    have K6 := Lib.hid (o6.at K5.out (fun hm => (AP.out.2 bb (by simpa using hm)).1 rfl))
    have M6 := Lib.hid (M5.out.keep (o6.block _ M5.out.lt (fun hm => (AP.out.2 m (by simpa using hm)).2 rfl)))
    have X6 := Lib.hid (o6.at X5.out (fun hm => by have := LT.out w.heap.size (by simp [foot] at hm ⊢; simp [hm]); omega))
    have R6 := Lib.hid g1
    have V6 : Hid (∀ b, v'.ownBlock = some b → (Value.slice va l.length vc).ownBlock = some b ∨ b = z3.heap.size) := Lib.hid (fun b e => by
      rcases g3 with q | q
      · rw [q] at e; exact .inl e
      · rw [q] at e; cases e; exact .inr rfl)
    have O6 := Lib.hid (O5.out.trans' o6 (fun b hb => .inl (by simp only [foot, List.mem_cons, List.mem_append]; exact .inr (.inl hb))))
    have NB6 : Hid (bb < z3.heap.size ∧ m < z3.heap.size ∧ w.heap.size ≤ z3.heap.size) := Lib.hid ⟨heap_lt K5.out, M5.out.lt, O5.out.size⟩
    subst hvq
    refine hK.out _ _ (X6.out) (fun hHeld5 => ?_)
    clear hK K hrun g1 g2 g3 o6 K5 M5 X5 O5 R5
    change wpAnyH _ _ _ _ _ _ _ (Act.put _ (some 46) _) _
    simp only [Act.put, List.setIfInBounds_toArray, List.set_cons_zero, List.set_cons_succ]
    refine wpAnyH_take (i := 11) (v := .pointer (some ⟨bb, 0, none⟩)) rfl (by kernel_rfl) (by kernel_rfl) (by kernel_rfl) (fun _ _ _ h => h) (Or.inl ⟨by rfl, fun w hSw => by have e0 := cell_of (j := 0) hSw; have e1 := cell_of (j := 1) hSw; simp at e0 e1; go_simp⟩) (by assumption) ?_
    change wpAnyH _ _ _ _ _ _ _ (Act.put _ (some 47) _) _
    simp only [Act.put, List.setIfInBounds_toArray, List.set_cons_zero, List.set_cons_succ]
    refine wpAnyH_take (i := 12) (v := .pointer (some ⟨bb, 0, none⟩)) rfl (by kernel_rfl) (by kernel_rfl) (by kernel_rfl) (fun _ _ _ h => h) (Or.inl ⟨by rfl, fun w hSw => by have e0 := cell_of (j := 0) hSw; have e1 := cell_of (j := 1) hSw; simp at e0 e1; go_simp⟩) (by assumption) ?_
    change wpAnyH _ _ _ _ _ _ _ (Act.put _ (some 48) _) _
    simp only [Act.put, List.setIfInBounds_toArray, List.set_cons_zero, List.set_cons_succ]
    refine wpAnyH_ready (rs := [13]) (by kernel_rfl) (by simp) ?_
    refine AllReadyH.cons rfl (fun K hK => ?_) (AllReadyH.nil)
    have d0 : z4.cell? ⟨bb, 0, none⟩ = some (.slice va l.length vc) := by rw [cell_of K6.out]; rfl
    have ff := frozen_of (j := 0) K6.out
    have o7 : Only [bb] z4 (z4.setCell ⟨bb, 0, none⟩ (.slice (some ⟨bq, 0, none⟩) (l.length + 1) cq)) := Only.of_set (by simp) _
    have K7 : Hid ((z4.setCell ⟨bb, 0, none⟩ (.slice (some ⟨bq, 0, none⟩) (l.length + 1) cq)).heap[bb]? = some (.cells #[.slice (some ⟨bq, 0, none⟩) (l.length + 1) cq, .map (some m)] 27 (0, 0))) := by
      show _ = _
      rw [set_of K6.out]
      rfl
    have X7 := Lib.hid (o7.at X6.out (by simp; have := LT.out bb (by simp); omega))
    have bq6 : bq ≠ bb := fun e => by rcases V6.out bq rfl with q | q; exact (AP.out.2 bq q).1 e; have := NB6.out.1; omega
    have R7 : Hid (EvRow _ _ _) := ORow.stay R6.out o7 (fun b e => by cases e; simpa using bq6)
    have M7 := Lib.hid (M6.out.keep (o7.block _ M6.out.lt (by simp; exact fun e => AP.out.1 e.symm)))
    have O7 := Lib.hid (O6.out.trans' o7 (fun b hb => .inl (by simp at hb; subst hb; simp)))
    go_simp
    refine hK.out _ _ (X7.out) (fun hHeld6 => ?_)
    clear hK K d0 ff o7
    refine ⟨by kernel_rfl, ?_⟩
    refine NoPanic.normal ?_
    go_wp2_with fail
    go_ret
    refine ⟨rfl, _, some m, ⟨K7.out, R7.out, ?_⟩, ?_, fun b hb => ?_⟩
    · rw [List.length_append, List.length_singleton]
      exact M7.out.congr (fun t' => by
        rw [findI_app]
        show _ = if i = t' then (if (0 : Int) = 0 then some l.length else none) else findI l t'
        by_cases e : t' = i
        · subst e; simp
        · rw [if_neg e, if_neg (fun q => e q.symm)])
    · exact O7.out
    · simp only [foot, List.mem_append, Option.mem_toList] at hb
      rcases hb with e | e
      · rcases V6.out b e with q | q
        · exact .inl (by simp [foot, q])
        · exact .inr (by have := NB6.out.2.2; omega)
      · cases e
        exact .inl (by simp [foot])
  · go_simp
    have hb := box1 z2 (.cells #[.int .i64 i, .int .i64 k, .int .i64 n, .int .i64 0, .int .i64 0, .int .i64 0, .int .i64 t, .int .i64 0, .int .i64 0] 38)
    have TB : Hid ((z2.alloc (.cells #[.int .i64 i, .int .i64 k, .int .i64 n, .int .i64 0, .int .i64 0, .int .i64 0, .int .i64 t, .int .i64 0, .int .i64 0] 38)).heap[z2.heap.size]? = some (.cells (evE (evNew i k n t)).toArray 38 (0, 0))) := heap_new z2 _
    have K5 := Lib.hid ((hb.block _ (heap_lt K4.out)).trans K4.out)
    have R5 := Lib.hid (ORow.next R4.out hb)
    have M5 := Lib.hid (M4.out.keep (hb.block _ M4.out.lt))
    have X5 := Lib.hid ((hb.block _ (heap_lt X4.out)).trans X4.out)
    have O5 := Lib.hid (O4.out.trans (Only.of_below hb))
    clear hb K4 R4 M4 X4 O4
    refine hK.out _ _ (X5.out) (fun hHeld4 => ?_)
    clear hK K
    generalize z2.alloc (.cells #[.int .i64 i, .int .i64 k, .int .i64 n, .int .i64 0, .int .i64 0, .int .i64 0, .int .i64 t, .int .i64 0, .int .i64 0] 38) = z3 at *
    generalize z2.heap.size = Q at *
    refine wpAnyH_ready (rs := [4]) (by kernel_rfl) (by simp) ?_
    refine AllReadyH.cons rfl (fun K hK => ?_) (AllReadyH.nil)
    have d0 : z3.cell? ⟨bb, 0, none⟩ = some (.slice va l.length vc) := by rw [cell_of K5.out]; rfl
    go_simp
    refine hK.out _ _ (X5.out) (fun hHeld3 => ?_)
    clear hK K d0
    refine wpAnyH_ready (rs := [10]) (by kernel_rfl) (by simp) ?_
    refine AllReadyH.cons rfl (fun K hK => ?_) (AllReadyH.nil)
    obtain ⟨v', z4, hrun, g1, g2, g3, bq, cq, hvq⟩ := EvRow.app (vb := Q) (x := evNew i k n t) R5.out TB.out (by omega) 24
    refine step_append_run rfl _ _ 24 24 rfl _ _ (by simp [Act.eval]) (by simp [Act.eval]) hrun ?_
    have o6 : Only (Value.slice va l.length vc).ownBlock.toList z3 z4 := Only.of_grown g2 (fun b hb => by simp [hb])
    have K6 := Lib.hid (o6.at K5.out (fun hm => (AP.out.2 bb (by simpa using hm)).1 rfl))
    have M6 := Lib.hid (M5.out.keep (o6.block _ M5.out.lt (fun hm => (AP.out.2 m (by simpa using hm)).2 rfl)))
    have X6 := Lib.hid (o6.at X5.out (fun hm => by have := LT.out w.heap.size (by simp [foot] at hm ⊢; simp [hm]); omega))
    have R6 := Lib.hid g1
    have V6 : Hid (∀ b, v'.ownBlock = some b → (Value.slice va l.length vc).ownBlock = some b ∨ b = z3.heap.size) := Lib.hid (fun b e => by
      rcases g3 with q | q
      · rw [q] at e; exact .inl e
      · rw [q] at e; cases e; exact .inr rfl)
    have O6 := Lib.hid (O5.out.trans' o6 (fun b hb => .inl (by simp only [foot, List.mem_cons, List.mem_append]; exact .inr (.inl hb))))
    have NB6 : Hid (bb < z3.heap.size ∧ m < z3.heap.size ∧ w.heap.size ≤ z3.heap.size) := Lib.hid ⟨heap_lt K5.out, M5.out.lt, O5.out.size⟩
    subst hvq
    refine hK.out _ _ (X6.out) (fun hHeld5 => ?_)
    clear hK K hrun g1 g2 g3 o6 K5 M5 X5 O5 R5
    change wpAnyH _ _ _ _ _ _ _ (Act.put _ (some 46) _) _
    simp only [Act.put, List.setIfInBounds_toArray, List.set_cons_zero, List.set_cons_succ]
    refine wpAnyH_take (i := 11) (v := .pointer (some ⟨bb, 0, none⟩)) rfl (by kernel_rfl) (by kernel_rfl) (by kernel_rfl) (fun _ _ _ h => h) (Or.inl ⟨by rfl, fun w hSw => by have e0 := cell_of (j := 0) hSw; have e1 := cell_of (j := 1) hSw; simp at e0 e1; go_simp⟩) (by assumption) ?_
    change wpAnyH _ _ _ _ _ _ _ (Act.put _ (some 47) _) _
    simp only [Act.put, List.setIfInBounds_toArray, List.set_cons_zero, List.set_cons_succ]
    refine wpAnyH_take (i := 12) (v := .pointer (some ⟨bb, 0, none⟩)) rfl (by kernel_rfl) (by kernel_rfl) (by kernel_rfl) (fun _ _ _ h => h) (Or.inl ⟨by rfl, fun w hSw => by have e0 := cell_of (j := 0) hSw; have e1 := cell_of (j := 1) hSw; simp at e0 e1; go_simp⟩) (by assumption) ?_
    change wpAnyH _ _ _ _ _ _ _ (Act.put _ (some 48) _) _
    simp only [Act.put, List.setIfInBounds_toArray, List.set_cons_zero, List.set_cons_succ]
    refine wpAnyH_ready (rs := [13]) (by kernel_rfl) (by simp) ?_
    refine AllReadyH.cons rfl (fun K hK => ?_) (AllReadyH.nil)
    have d0 : z4.cell? ⟨bb, 0, none⟩ = some (.slice va l.length vc) := by rw [cell_of K6.out]; rfl
    have ff := frozen_of (j := 0) K6.out
    have o7 : Only [bb] z4 (z4.setCell ⟨bb, 0, none⟩ (.slice (some ⟨bq, 0, none⟩) (l.length + 1) cq)) := Only.of_set (by simp) _
    have K7 : Hid ((z4.setCell ⟨bb, 0, none⟩ (.slice (some ⟨bq, 0, none⟩) (l.length + 1) cq)).heap[bb]? = some (.cells #[.slice (some ⟨bq, 0, none⟩) (l.length + 1) cq, .map (some m)] 27 (0, 0))) := by
      show _ = _
      rw [set_of K6.out]
      rfl
    have X7 := Lib.hid (o7.at X6.out (by simp; have := LT.out bb (by simp); omega))
    have bq6 : bq ≠ bb := fun e => by rcases V6.out bq rfl with q | q; exact (AP.out.2 bq q).1 e; have := NB6.out.1; omega
    have R7 : Hid (EvRow _ _ _) := ORow.stay R6.out o7 (fun b e => by cases e; simpa using bq6)
    have M7 := Lib.hid (M6.out.keep (o7.block _ M6.out.lt (by simp; exact fun e => AP.out.1 e.symm)))
    have O7 := Lib.hid (O6.out.trans' o7 (fun b hb => .inl (by simp at hb; subst hb; simp)))
    go_simp
    refine hK.out _ _ (X7.out) (fun hHeld6 => ?_)
    clear hK K d0 ff o7
    refine ⟨by kernel_rfl, ?_⟩
    refine NoPanic.normal ?_
    go_wp2_with fail
    go_ret
    refine ⟨rfl, _, some m, ⟨K7.out, R7.out, ?_⟩, ?_, fun b hb => ?_⟩
    · rw [List.length_append, List.length_singleton]
      exact M7.out.congr (fun t' => by
        rw [findI_app]
        show _ = if i = t' then (if (0 : Int) = 0 then some l.length else none) else findI l t'
        by_cases e : t' = i
        · subst e; simp
        · rw [if_neg e, if_neg (fun q => e q.symm)])
    · exact O7.out
    · simp only [foot, List.mem_append, Option.mem_toList] at hb
      rcases hb with e | e
      · rcases V6.out b e with q | q
        · exact .inl (by simp [foot, q])
        · exact .inr (by have := NB6.out.2.2; omega)
      · cases e
        exact .inl (by simp [foot])
end
end Go.Proofs.Ytagacljfpakgnab
