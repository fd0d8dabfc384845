/-
  What a worker does; the document's Begin.
-/
import Derived.Test.YtagacljfpakgnaaNoteD1
namespace Go.Proofs.Ytagacljfpakgnaa
open Go.RowKit Go.Sort Go.Maps
attribute [local go_sem] Oper.semAt_some

def evZ : Ev := ⟨0, 0, 0, 0, 0, 0, 0, 0, 0⟩
def openE (l : List Ev) (i : Int) : Ev := match findI l i with
  | some j => l.getD j evZ
  | none => evZ
set_option maxRecDepth 20000 in
set_option maxHeartbeats 4000000 in
theorem nopen_any (bb : Nat) (v : Value) (o : Option Nat) (l : List Ev) (i : Int) (w : World) (h : Hid (Bn w bb v o l)) (hi : (Lit.int .i64 i).wf = true) :
    Calls Try.prog 13 #[.pointer (some ⟨bb, 0, none⟩), .int .i64 i] w fun e w' => e = .returned (.tuple #[.agg #[.int .i64 (openE l i).w, .int .i64 (openE l i).k, .int .i64 (openE l i).n, .int .i64 (openE l i).c, .int .i64 (openE l i).a, .int .i64 (openE l i).s, .int .i64 (openE l i).b, .int .i64 (openE l i).p, .int .i64 (openE l i).e], .bool (findI l i).isSome]) ∧ Below w.heap.size w w' := by
  have hb := box1 w (.cells #[.int .i64 0, .int .i64 0, .int .i64 0, .int .i64 0, .int .i64 0, .int .i64 0, .int .i64 0, .int .i64 0, .int .i64 0] 43)
  have ZB : (w.alloc (.cells #[.int .i64 0, .int .i64 0, .int .i64 0, .int .i64 0, .int .i64 0, .int .i64 0, .int .i64 0, .int .i64 0, .int .i64 0] 43)).heap[w.heap.size]? = some (.cells #[.int .i64 0, .int .i64 0, .int .i64 0, .int .i64 0, .int .i64 0, .int .i64 0, .int .i64 0, .int .i64 0, .int .i64 0] 43 (0, 0)) := heap_new w _
  have H0 := Lib.hid (h.out.next hb)
  have B0 := Lib.hid hb
  clear hb
  unfold openE
  cases hf : findI l i with
  | none =>
    have DO := Lib.hid (doing_none bb v o l i _ H0 hi hf)
    go_enter Try.func13, Try.ntmps13
    go_wp2_with fail
    refine DO.out.mono ?_
    rintro e w1 ⟨rfl, rfl⟩
    go_wp2_with fail
    exact bodyPost_ret (v := .tuple #[.agg #[.int .i64 0, .int .i64 0, .int .i64 0, .int .i64 0, .int .i64 0, .int .i64 0, .int .i64 0, .int .i64 0, .int .i64 0], .bool false]) (by simp [results, Try.results13, go_sem]) rfl ⟨rfl, B0.out⟩
  | some j =>
    obtain ⟨x, hx, -, -, hj, -⟩ := findI_some hf
    obtain ⟨vb, cap, rfl, DO'⟩ := doing_some bb v o l i j _ H0 hi hf
    have DO := Lib.hid DO'
    obtain ⟨lb, cp, hv2, y0, y1, y2, y3, y4, y5, y6, y7, y8, _⟩ := EvRow.cells H0.out.row hx
    simp only [Value.slice.injEq, Option.some.injEq, Addr.mk.injEq, and_true, true_and] at hv2
    obtain ⟨rfl, rfl⟩ := hv2
    have ex : l.getD j evZ = x := by rw [List.getD_eq_getElem?_getD, hx]; rfl
    simp only [ex]
    have RY := Lib.hid H0.out.row
    clear hx DO' ex hf
    go_enter Try.func13, Try.ntmps13
    go_wp2_with fail
    refine DO.out.mono ?_
    rintro e w1 ⟨rfl, rfl⟩
    go_wp2_with fail
    exact bodyPost_ret (v := .tuple #[.agg #[.int .i64 x.w, .int .i64 x.k, .int .i64 x.n, .int .i64 x.c, .int .i64 x.a, .int .i64 x.s, .int .i64 x.b, .int .i64 x.p, .int .i64 x.e], .bool true]) (by simp [results, Try.results13, go_sem]) rfl ⟨rfl, box1 w _⟩
set_option maxRecDepth 20000 in
set_option maxHeartbeats 8000000 in
theorem rbegin_any (v : Value) (l : List Ev) (i k n t : Int) (w : World) (h : Hid (EvRow w v l)) (few : l.length ≤ 1000000) :
    Calls Try.prog 5 #[v, .int .i64 i, .agg #[.int .i64 k, .int .i64 n], .int .i64 t] w fun e w' => ∃ v', e = .returned (.tuple #[v', .bool (findI l i).isNone]) ∧ EvRow w' v' (bgL l i k n t) ∧ Below w.heap.size w w' ∧ (v' = v ∨ ∀ b, v'.ownBlock = some b → w.heap.size ≤ b) := by
  obtain ⟨va, vc, rfl⟩ := ORow.form h.out
  have LB : Hid (∀ b, (Value.slice va l.length vc).ownBlock = some b → b < w.heap.size) := Lib.hid (fun b hb => h.out.lt' hb)
  have hb1 := box1 w (.cells #[.int .i64 k, .int .i64 n] 29)
  have D1 : Hid ((w.alloc (.cells #[.int .i64 k, .int .i64 n] 29)).heap[w.heap.size]? = some (.cells #[.int .i64 k, .int .i64 n] 29 (0, 0))) := heap_new w _
  have R1 := Lib.hid (ORow.next h.out hb1)
  have B1 := Lib.hid hb1
  clear hb1
  unfold bgL
  have FI := Lib.hid (rfind_any _ l i _ R1 few)
  cases hf : findI l i with
  | some j =>
    rw [hf] at FI
    simp only [rfI] at FI
    clear hf
    go_enter Try.func5, Try.ntmps5
    go_wp2_with fail
    generalize w.alloc (.cells #[.int .i64 k, .int .i64 n] 29) = w1 at *
    refine FI.out.mono ?_
    rintro e w2 ⟨rfl, rfl⟩
    have gj : decide (0 ≤ (j : Int)) = true := by simp
    go_wp2_with fail
    exact bodyPost_ret (v := .tuple #[.slice va l.length vc, .bool false]) (by simp [results, Try.results5, go_sem]) rfl ⟨_, rfl, R1.out, B1.out, .inl rfl⟩
  | none =>
    rw [hf] at FI
    simp only [rfI] at FI
    clear hf
    go_enter Try.func5, Try.ntmps5
    go_wp2_with fail
    generalize w.alloc (.cells #[.int .i64 k, .int .i64 n] 29) = w1 at *
    refine FI.out.mono ?_
    rintro e w2 ⟨rfl, rfl⟩
    go_upto_region 3 with fail
    refine wp_region_noPanic ?_
    refine wp_region_held_drew (S := fun w' => w'.heap[w.heap.size]? = some (.cells #[.int .i64 k, .int .i64 n] 29 (0, 0))) (by kernel_rfl) (D1.out) (fun hHeld => ?_)
    have DR := (Below.refl w1.heap.size w1).drew
    have B3 := Lib.hid (B1.out.trans (DR.mono B1.out.size))
    have R3 := Lib.hid (ORow.next R1.out DR)
    have D3 := Lib.hid ((DR.block _ (heap_lt D1.out)).trans D1.out)
    clear DR B1 R1 D1
    generalize w1.drew = z0 at *
    refine wpAnyH_take (i := 1) (v := .slice va l.length vc) rfl (by kernel_rfl) (by kernel_rfl) (by kernel_rfl) (fun _ _ _ h => h) (Or.inl ⟨by rfl, fun w hSw => by have b0 := cell_of (j := 0) hSw; have b1 := cell_of (j := 1) hSw; simp at b0 b1; go_simp⟩) (by assumption) ?_
    change wpAnyH _ _ _ _ _ _ _ (Act.put _ (some 16) _) _
    simp only [Act.put, List.setIfInBounds_toArray, List.set_cons_zero, List.set_cons_succ]
    refine wpAnyH_take (i := 3) (v := .int .i64 i) rfl (by kernel_rfl) (by kernel_rfl) (by kernel_rfl) (fun _ _ _ h => h) (Or.inl ⟨by rfl, fun w hSw => by have b0 := cell_of (j := 0) hSw; have b1 := cell_of (j := 1) hSw; simp at b0 b1; go_simp⟩) (by assumption) ?_
    change wpAnyH _ _ _ _ _ _ _ (Act.put _ (some 18) _) _
    simp only [Act.put, List.setIfInBounds_toArray, List.set_cons_zero, List.set_cons_succ]
    refine wpAnyH_take (i := 4) (v := .agg #[.int .i64 k, .int .i64 n]) rfl (by kernel_rfl) (by kernel_rfl) (by kernel_rfl) (fun _ _ _ h => h) (Or.inl ⟨by rfl, fun w hSw => by have b0 := cell_of (j := 0) hSw; have b1 := cell_of (j := 1) hSw; simp at b0 b1; go_simp⟩) (by assumption) ?_
    change wpAnyH _ _ _ _ _ _ _ (Act.put _ (some 19) _) _
    simp only [Act.put, List.setIfInBounds_toArray, List.set_cons_zero, List.set_cons_succ]
    refine wpAnyH_take (i := 5) (v := .int .i64 t) rfl (by kernel_rfl) (by kernel_rfl) (by kernel_rfl) (fun _ _ _ h => h) (Or.inl ⟨by rfl, fun w hSw => by have b0 := cell_of (j := 0) hSw; have b1 := cell_of (j := 1) hSw; simp at b0 b1; go_simp⟩) (by assumption) ?_
    change wpAnyH _ _ _ _ _ _ _ (Act.put _ (some 20) _) _
    simp only [Act.put, List.setIfInBounds_toArray, List.set_cons_zero, List.set_cons_succ]
    refine wpAnyH_take (i := 6) (v := .agg #[.int .i64 i, .int .i64 k, .int .i64 n, .int .i64 0, .int .i64 0, .int .i64 0, .int .i64 t, .int .i64 0, .int .i64 0]) rfl (by kernel_rfl) (by kernel_rfl) (by kernel_rfl) (fun _ _ _ h => h) (Or.inl ⟨by rfl, fun w hSw => by have b0 := cell_of (j := 0) hSw; have b1 := cell_of (j := 1) hSw; simp at b0 b1; go_simp⟩) (by assumption) ?_
    change wpAnyH _ _ _ _ _ _ _ (Act.put _ (some 21) _) _
    simp only [Act.put, List.setIfInBounds_toArray, List.set_cons_zero, List.set_cons_succ]
    refine wpAnyH_ready (rs := [0, 7]) (by kernel_rfl) (by simp) ?_
    refine AllReadyH.cons rfl (fun K hK => ?_) (AllReadyH.cons rfl (fun K hK => ?_) (AllReadyH.nil))
    · refine step_value (v := .slice (some ⟨z0.heap.size, 0, none⟩) 0 0) (w' := z0.alloc (.cells #[] 43)) rfl (by kernel_rfl) ?_
      have hb := box1 z0 (.cells #[] 43)
      have EB1 : Hid (Below w.heap.size w _) := B3.out.trans (hb.mono B3.out.size)
      have ER1 := Lib.hid (ORow.next R3.out hb)
      have ED1 := Lib.hid ((hb.block _ (heap_lt D3.out)).trans D3.out)
      have EE1 := Lib.hid (EvRow.empty z0)
      have EO1 : Hid (∀ b, (Value.slice (some ⟨z0.heap.size, 0, none⟩) 0 0).ownBlock = some b → w.heap.size < b) := Lib.hid (fun b e => by cases e; exact heap_lt D3.out)
      clear hb
      refine hK.out _ _ (ED1.out) (fun hHeld1 => ?_)
      clear hK K
      change wpAnyH _ _ _ _ _ _ _ (Act.put _ (some 15) _) _
      simp only [Act.put, List.setIfInBounds_toArray, List.set_cons_zero, List.set_cons_succ]
      generalize z0.alloc (.cells #[] 43) = y1 at *
      generalize z0.heap.size = e1 at *
      refine wpAnyH_ready (rs := [2, 7]) (by kernel_rfl) (by simp) ?_
      refine AllReadyH.cons rfl (fun K hK => ?_) (AllReadyH.cons rfl (fun K hK => ?_) (AllReadyH.nil))
      · obtain ⟨v2, y2, hrun, r1, r2, r3⟩ := EvRow.cat EE1.out ER1.out (by omega) 24
        refine step_append_run rfl _ _ 24 24 rfl _ _ (by simp [Act.eval]) (by simp [Act.eval]) hrun ?_
        have on2 : Only (Value.slice (some ⟨e1, 0, none⟩) 0 0).ownBlock.toList y1 y2 := Only.of_grown r2 (fun b hb => by simp [hb])
        have GB2 : Hid (Below w.heap.size w y2) := EB1.out.trans (on2.below (fun b hb => Nat.le_of_lt (EO1.out b (by simpa using hb))) EB1.out.size)
        have GE2 := Lib.hid r1
        have GD2 := Lib.hid (on2.at ED1.out (fun hm => by have := EO1.out _ (by simpa using hm); omega))
        have GO2 : Hid (∀ b, v2.ownBlock = some b → w.heap.size < b) := Lib.hid (fun b e => by
          rcases r3 with h1 | h1
          · rw [h1] at e; exact EO1.out b e
          · rw [h1] at e; cases e; exact heap_lt ED1.out)
        have GR2 := Lib.hid (ORow.stay ER1.out on2 (fun b h1 h2 => by have := LB.out b h1; have := EO1.out b (by simpa using h2); omega))
        clear on2 hrun r1 r2 r3
        refine hK.out _ _ (GD2.out) (fun hHeld2 => ?_)
        clear hK K
        change wpAnyH _ _ _ _ _ _ _ (Act.put _ (some 17) _) _
        simp only [Act.put, List.setIfInBounds_toArray, List.set_cons_zero, List.set_cons_succ]
        refine wpAnyH_ready (rs := [7]) (by kernel_rfl) (by simp) ?_
        refine AllReadyH.cons rfl (fun K hK => ?_) (AllReadyH.nil)
        go_simp
        have hb := box1 y2 (.cells #[.int .i64 i, .int .i64 k, .int .i64 n, .int .i64 0, .int .i64 0, .int .i64 0, .int .i64 t, .int .i64 0, .int .i64 0] 43)
        have BB3 : Hid (Below w.heap.size w _) := GB2.out.trans (hb.mono GB2.out.size)
        have BR3 := Lib.hid (ORow.next GR2.out hb)
        have BD3 := Lib.hid ((hb.block _ (heap_lt GD2.out)).trans GD2.out)
        have BT3 : Hid ((y2.alloc (.cells #[.int .i64 i, .int .i64 k, .int .i64 n, .int .i64 0, .int .i64 0, .int .i64 0, .int .i64 t, .int .i64 0, .int .i64 0] 43)).heap[y2.heap.size]? = some (.cells (evE (evNew i k n t)).toArray 43 (0, 0))) := heap_new y2 _
        have BE3 := Lib.hid (ORow.next GE2.out hb)
        have BQ3 : Hid (v2.ownBlock ≠ some y2.heap.size) := Lib.hid (fun e => Nat.lt_irrefl _ (EvRow.lt' GE2.out e))
        clear hb
        refine hK.out _ _ (BD3.out) (fun hHeld3 => ?_)
        clear hK K
        generalize y2.alloc (.cells #[.int .i64 i, .int .i64 k, .int .i64 n, .int .i64 0, .int .i64 0, .int .i64 0, .int .i64 t, .int .i64 0, .int .i64 0] 43) = y3 at *
        generalize y2.heap.size = q3 at *
        refine wpAnyH_ready (rs := [8]) (by kernel_rfl) (by simp) ?_
        refine AllReadyH.cons rfl (fun K hK => ?_) (AllReadyH.nil)
        obtain ⟨v4, y4, hrun, r1, r2, r3, bq, cq, hvq⟩ := EvRow.app (vb := q3) (x := evNew i k n t) BE3.out BT3.out (by omega) 24
        refine step_append_run rfl _ _ 24 24 rfl _ _ (by simp [Act.eval]) (by simp [Act.eval]) hrun ?_
        have on4 : Only v2.ownBlock.toList y3 y4 := Only.of_grown r2 (fun b hb => by simp [hb])
        have GB4 : Hid (Below w.heap.size w y4) := BB3.out.trans (on4.below (fun b hb => Nat.le_of_lt (GO2.out b (by simpa using hb))) BB3.out.size)
        have GE4 := Lib.hid r1
        have GD4 := Lib.hid (on4.at BD3.out (fun hm => by have := GO2.out _ (by simpa using hm); omega))
        have GO4 : Hid (∀ b, v4.ownBlock = some b → w.heap.size < b) := Lib.hid (fun b e => by
          rcases r3 with h1 | h1
          · rw [h1] at e; exact GO2.out b e
          · rw [h1] at e; cases e; exact heap_lt BD3.out)
        clear on4 hrun r1 r2 r3
        refine hK.out _ _ (GD4.out) (fun hHeld4 => ?_)
        clear hK K
        change wpAnyH _ _ _ _ _ _ _ (Act.put _ (some 23) _) _
        simp only [Act.put, List.setIfInBounds_toArray, List.set_cons_zero, List.set_cons_succ]
        refine wpAnyH_take (i := 9) (v := v4) rfl (by kernel_rfl) (by kernel_rfl) (by kernel_rfl) (fun _ _ _ h => h) (Or.inl ⟨by rfl, fun w hSw => by have b0 := cell_of (j := 0) hSw; have b1 := cell_of (j := 1) hSw; simp at b0 b1; go_simp⟩) (by assumption) ?_
        change wpAnyH _ _ _ _ _ _ _ (Act.put _ (some 8) _) _
        simp only [Act.put, List.setIfInBounds_toArray, List.set_cons_zero, List.set_cons_succ]
        refine wpAnyH_take (i := 10) (v := .bool true) rfl (by kernel_rfl) (by kernel_rfl) (by kernel_rfl) (fun _ _ _ h => h) (Or.inl ⟨by rfl, fun w hSw => by have b0 := cell_of (j := 0) hSw; have b1 := cell_of (j := 1) hSw; simp at b0 b1; go_simp⟩) (by assumption) ?_
        change wpAnyH _ _ _ _ _ _ _ (Act.put _ (some 9) _) _
        simp only [Act.put, List.setIfInBounds_toArray, List.set_cons_zero, List.set_cons_succ]
        refine ⟨by kernel_rfl, ?_⟩
        refine NoPanic.normal ?_
        go_wp2_with fail
        exact bodyPost_ret (v := .tuple #[v4, .bool true]) (by simp [results, Try.results5, go_sem, hvq]) rfl ⟨v4, rfl, GE4.out, GB4.out, .inr (fun b e => Nat.le_of_lt (GO4.out b e))⟩
      · go_simp
        have hb := box1 y1 (.cells #[.int .i64 i, .int .i64 k, .int .i64 n, .int .i64 0, .int .i64 0, .int .i64 0, .int .i64 t, .int .i64 0, .int .i64 0] 43)
        have BB5 : Hid (Below w.heap.size w _) := EB1.out.trans (hb.mono EB1.out.size)
        have BR5 := Lib.hid (ORow.next ER1.out hb)
        have BD5 := Lib.hid ((hb.block _ (heap_lt ED1.out)).trans ED1.out)
        have BT5 : Hid ((y1.alloc (.cells #[.int .i64 i, .int .i64 k, .int .i64 n, .int .i64 0, .int .i64 0, .int .i64 0, .int .i64 t, .int .i64 0, .int .i64 0] 43)).heap[y1.heap.size]? = some (.cells (evE (evNew i k n t)).toArray 43 (0, 0))) := heap_new y1 _
        have BE5 := Lib.hid (ORow.next EE1.out hb)
        have BQ5 : Hid ((Value.slice (some ⟨e1, 0, none⟩) 0 0).ownBlock ≠ some y1.heap.size) := Lib.hid (fun e => Nat.lt_irrefl _ (EvRow.lt' EE1.out e))
        clear hb
        refine hK.out _ _ (BD5.out) (fun hHeld5 => ?_)
        clear hK K
        generalize y1.alloc (.cells #[.int .i64 i, .int .i64 k, .int .i64 n, .int .i64 0, .int .i64 0, .int .i64 0, .int .i64 t, .int .i64 0, .int .i64 0] 43) = y5 at *
        generalize y1.heap.size = q5 at *
        refine wpAnyH_ready (rs := [2]) (by kernel_rfl) (by simp) ?_
        refine AllReadyH.cons rfl (fun K hK => ?_) (AllReadyH.nil)
        obtain ⟨v6, y6, hrun, r1, r2, r3⟩ := EvRow.cat BE5.out BR5.out (by omega) 24
        refine step_append_run rfl _ _ 24 24 rfl _ _ (by simp [Act.eval]) (by simp [Act.eval]) hrun ?_
        have on6 : Only (Value.slice (some ⟨e1, 0, none⟩) 0 0).ownBlock.toList y5 y6 := Only.of_grown r2 (fun b hb => by simp [hb])
        have GB6 : Hid (Below w.heap.size w y6) := BB5.out.trans (on6.below (fun b hb => Nat.le_of_lt (EO1.out b (by simpa using hb))) BB5.out.size)
        have GE6 := Lib.hid r1
        have GD6 := Lib.hid (on6.at BD5.out (fun hm => by have := EO1.out _ (by simpa using hm); omega))
        have GO6 : Hid (∀ b, v6.ownBlock = some b → w.heap.size < b) := Lib.hid (fun b e => by
          rcases r3 with h1 | h1
          · rw [h1] at e; exact EO1.out b e
          · rw [h1] at e; cases e; exact heap_lt BD5.out)
        have GT6 := Lib.hid (on6.at BT5.out (fun hm => BQ5.out (by simpa using hm)))
        have GQ6 : Hid (v6.ownBlock ≠ some q5) := Lib.hid (fun e => by
          rcases r3 with h1 | h1
          · rw [h1] at e; exact BQ5.out e
          · rw [h1] at e; cases e; exact Nat.lt_irrefl _ (heap_lt BT5.out))
        have GR6 := Lib.hid (ORow.stay BR5.out on6 (fun b h1 h2 => by have := LB.out b h1; have := EO1.out b (by simpa using h2); omega))
        clear on6 hrun r1 r2 r3
        refine hK.out _ _ (GD6.out) (fun hHeld6 => ?_)
        clear hK K
        change wpAnyH _ _ _ _ _ _ _ (Act.put _ (some 17) _) _
        simp only [Act.put, List.setIfInBounds_toArray, List.set_cons_zero, List.set_cons_succ]
        refine wpAnyH_ready (rs := [8]) (by kernel_rfl) (by simp) ?_
        refine AllReadyH.cons rfl (fun K hK => ?_) (AllReadyH.nil)
        obtain ⟨v7, y7, hrun, r1, r2, r3, bq, cq, hvq⟩ := EvRow.app (vb := q5) (x := evNew i k n t) GE6.out GT6.out (by omega) 24
        refine step_append_run rfl _ _ 24 24 rfl _ _ (by simp [Act.eval]) (by simp [Act.eval]) hrun ?_
        have on7 : Only v6.ownBlock.toList y6 y7 := Only.of_grown r2 (fun b hb => by simp [hb])
        have GB7 : Hid (Below w.heap.size w y7) := GB6.out.trans (on7.below (fun b hb => Nat.le_of_lt (GO6.out b (by simpa using hb))) GB6.out.size)
        have GE7 := Lib.hid r1
        have GD7 := Lib.hid (on7.at GD6.out (fun hm => by have := GO6.out _ (by simpa using hm); omega))
        have GO7 : Hid (∀ b, v7.ownBlock = some b → w.heap.size < b) := Lib.hid (fun b e => by
          rcases r3 with h1 | h1
          · rw [h1] at e; exact GO6.out b e
          · rw [h1] at e; cases e; exact heap_lt GD6.out)
        clear on7 hrun r1 r2 r3
        refine hK.out _ _ (GD7.out) (fun hHeld7 => ?_)
        clear hK K
        change wpAnyH _ _ _ _ _ _ _ (Act.put _ (some 23) _) _
        simp only [Act.put, List.setIfInBounds_toArray, List.set_cons_zero, List.set_cons_succ]
        refine wpAnyH_take (i := 9) (v := v7) rfl (by kernel_rfl) (by kernel_rfl) (by kernel_rfl) (fun _ _ _ h => h) (Or.inl ⟨by rfl, fun w hSw => by have b0 := cell_of (j := 0) hSw; have b1 := cell_of (j := 1) hSw; simp at b0 b1; go_simp⟩) (by assumption) ?_
        change wpAnyH _ _ _ _ _ _ _ (Act.put _ (some 8) _) _
        simp only [Act.put, List.setIfInBounds_toArray, List.set_cons_zero, List.set_cons_succ]
        refine wpAnyH_take (i := 10) (v := .bool true) rfl (by kernel_rfl) (by kernel_rfl) (by kernel_rfl) (fun _ _ _ h => h) (Or.inl ⟨by rfl, fun w hSw => by have b0 := cell_of (j := 0) hSw; have b1 := cell_of (j := 1) hSw; simp at b0 b1; go_simp⟩) (by assumption) ?_
        change wpAnyH _ _ _ _ _ _ _ (Act.put _ (some 9) _) _
        simp only [Act.put, List.setIfInBounds_toArray, List.set_cons_zero, List.set_cons_succ]
        refine ⟨by kernel_rfl, ?_⟩
        refine NoPanic.normal ?_
        go_wp2_with fail
        exact bodyPost_ret (v := .tuple #[v7, .bool true]) (by simp [results, Try.results5, go_sem, hvq]) rfl ⟨v7, rfl, GE7.out, GB7.out, .inr (fun b e => Nat.le_of_lt (GO7.out b e))⟩
    · go_simp
      have hb := box1 z0 (.cells #[.int .i64 i, .int .i64 k, .int .i64 n, .int .i64 0, .int .i64 0, .int .i64 0, .int .i64 t, .int .i64 0, .int .i64 0] 43)
      have BB8 : Hid (Below w.heap.size w _) := B3.out.trans (hb.mono B3.out.size)
      have BR8 := Lib.hid (ORow.next R3.out hb)
      have BD8 := Lib.hid ((hb.block _ (heap_lt D3.out)).trans D3.out)
      have BT8 : Hid ((z0.alloc (.cells #[.int .i64 i, .int .i64 k, .int .i64 n, .int .i64 0, .int .i64 0, .int .i64 0, .int .i64 t, .int .i64 0, .int .i64 0] 43)).heap[z0.heap.size]? = some (.cells (evE (evNew i k n t)).toArray 43 (0, 0))) := heap_new z0 _
      clear hb
      refine hK.out _ _ (BD8.out) (fun hHeld8 => ?_)
      clear hK K
      generalize z0.alloc (.cells #[.int .i64 i, .int .i64 k, .int .i64 n, .int .i64 0, .int .i64 0, .int .i64 0, .int .i64 t, .int .i64 0, .int .i64 0] 43) = y8 at *
      generalize z0.heap.size = q8 at *
      refine wpAnyH_ready (rs := [0]) (by kernel_rfl) (by simp) ?_
      refine AllReadyH.cons rfl (fun K hK => ?_) (AllReadyH.nil)
      refine step_value (v := .slice (some ⟨y8.heap.size, 0, none⟩) 0 0) (w' := y8.alloc (.cells #[] 43)) rfl (by kernel_rfl) ?_
      have hb := box1 y8 (.cells #[] 43)
      have EB9 : Hid (Below w.heap.size w _) := BB8.out.trans (hb.mono BB8.out.size)
      have ER9 := Lib.hid (ORow.next BR8.out hb)
      have ED9 := Lib.hid ((hb.block _ (heap_lt BD8.out)).trans BD8.out)
      have EE9 := Lib.hid (EvRow.empty y8)
      have EO9 : Hid (∀ b, (Value.slice (some ⟨y8.heap.size, 0, none⟩) 0 0).ownBlock = some b → w.heap.size < b) := Lib.hid (fun b e => by cases e; exact heap_lt BD8.out)
      have ET9 := Lib.hid ((hb.block _ (heap_lt BT8.out)).trans BT8.out)
      have EQ9 : Hid ((Value.slice (some ⟨y8.heap.size, 0, none⟩) 0 0).ownBlock ≠ some q8) := Lib.hid (fun e => by cases e; exact Nat.lt_irrefl _ (heap_lt BT8.out))
      clear hb
      refine hK.out _ _ (ED9.out) (fun hHeld9 => ?_)
      clear hK K
      change wpAnyH _ _ _ _ _ _ _ (Act.put _ (some 15) _) _
      simp only [Act.put, List.setIfInBounds_toArray, List.set_cons_zero, List.set_cons_succ]
      generalize y8.alloc (.cells #[] 43) = y9 at *
      generalize y8.heap.size = e9 at *
      refine wpAnyH_ready (rs := [2]) (by kernel_rfl) (by simp) ?_
      refine AllReadyH.cons rfl (fun K hK => ?_) (AllReadyH.nil)
      obtain ⟨v10, y10, hrun, r1, r2, r3⟩ := EvRow.cat EE9.out ER9.out (by omega) 24
      refine step_append_run rfl _ _ 24 24 rfl _ _ (by simp [Act.eval]) (by simp [Act.eval]) hrun ?_
      have on10 : Only (Value.slice (some ⟨e9, 0, none⟩) 0 0).ownBlock.toList y9 y10 := Only.of_grown r2 (fun b hb => by simp [hb])
      have GB10 : Hid (Below w.heap.size w y10) := EB9.out.trans (on10.below (fun b hb => Nat.le_of_lt (EO9.out b (by simpa using hb))) EB9.out.size)
      have GE10 := Lib.hid r1
      have GD10 := Lib.hid (on10.at ED9.out (fun hm => by have := EO9.out _ (by simpa using hm); omega))
      have GO10 : Hid (∀ b, v10.ownBlock = some b → w.heap.size < b) := Lib.hid (fun b e => by
        rcases r3 with h1 | h1
        · rw [h1] at e; exact EO9.out b e
        · rw [h1] at e; cases e; exact heap_lt ED9.out)
      have GT10 := Lib.hid (on10.at ET9.out (fun hm => EQ9.out (by simpa using hm)))
      have GQ10 : Hid (v10.ownBlock ≠ some q8) := Lib.hid (fun e => by
        rcases r3 with h1 | h1
        · rw [h1] at e; exact EQ9.out e
        · rw [h1] at e; cases e; exact Nat.lt_irrefl _ (heap_lt ET9.out))
      have GR10 := Lib.hid (ORow.stay ER9.out on10 (fun b h1 h2 => by have := LB.out b h1; have := EO9.out b (by simpa using h2); omega))
      clear on10 hrun r1 r2 r3
      refine hK.out _ _ (GD10.out) (fun hHeld10 => ?_)
      clear hK K
      change wpAnyH _ _ _ _ _ _ _ (Act.put _ (some 17) _) _
      simp only [Act.put, List.setIfInBounds_toArray, List.set_cons_zero, List.set_cons_succ]
      refine wpAnyH_ready (rs := [8]) (by kernel_rfl) (by simp) ?_
      refine AllReadyH.cons rfl (fun K hK => ?_) (AllReadyH.nil)
      obtain ⟨v11, y11, hrun, r1, r2, r3, bq, cq, hvq⟩ := EvRow.app (vb := q8) (x := evNew i k n t) GE10.out GT10.out (by omega) 24
      refine step_append_run rfl _ _ 24 24 rfl _ _ (by simp [Act.eval]) (by simp [Act.eval]) hrun ?_
      have on11 : Only v10.ownBlock.toList y10 y11 := Only.of_grown r2 (fun b hb => by simp [hb])
      have GB11 : Hid (Below w.heap.size w y11) := GB10.out.trans (on11.below (fun b hb => Nat.le_of_lt (GO10.out b (by simpa using hb))) GB10.out.size)
      have GE11 := Lib.hid r1
      have GD11 := Lib.hid (on11.at GD10.out (fun hm => by have := GO10.out _ (by simpa using hm); omega))
      have GO11 : Hid (∀ b, v11.ownBlock = some b → w.heap.size < b) := Lib.hid (fun b e => by
        rcases r3 with h1 | h1
        · rw [h1] at e; exact GO10.out b e
        · rw [h1] at e; cases e; exact heap_lt GD10.out)
      clear on11 hrun r1 r2 r3
      refine hK.out _ _ (GD11.out) (fun hHeld11 => ?_)
      clear hK K
      change wpAnyH _ _ _ _ _ _ _ (Act.put _ (some 23) _) _
      simp only [Act.put, List.setIfInBounds_toArray, List.set_cons_zero, List.set_cons_succ]
      refine wpAnyH_take (i := 9) (v := v11) rfl (by kernel_rfl) (by kernel_rfl) (by kernel_rfl) (fun _ _ _ h => h) (Or.inl ⟨by rfl, fun w hSw => by have b0 := cell_of (j := 0) hSw; have b1 := cell_of (j := 1) hSw; simp at b0 b1; go_simp⟩) (by assumption) ?_
      change wpAnyH _ _ _ _ _ _ _ (Act.put _ (some 8) _) _
      simp only [Act.put, List.setIfInBounds_toArray, List.set_cons_zero, List.set_cons_succ]
      refine wpAnyH_take (i := 10) (v := .bool true) rfl (by kernel_rfl) (by kernel_rfl) (by kernel_rfl) (fun _ _ _ h => h) (Or.inl ⟨by rfl, fun w hSw => by have b0 := cell_of (j := 0) hSw; have b1 := cell_of (j := 1) hSw; simp at b0 b1; go_simp⟩) (by assumption) ?_
      change wpAnyH _ _ _ _ _ _ _ (Act.put _ (some 9) _) _
      simp only [Act.put, List.setIfInBounds_toArray, List.set_cons_zero, List.set_cons_succ]
      refine ⟨by kernel_rfl, ?_⟩
      refine NoPanic.normal ?_
      go_wp2_with fail
      exact bodyPost_ret (v := .tuple #[v11, .bool true]) (by simp [results, Try.results5, go_sem, hvq]) rfl ⟨v11, rfl, GE11.out, GB11.out, .inr (fun b e => Nat.le_of_lt (GO11.out b e))⟩
end Go.Proofs.Ytagacljfpakgnaa
