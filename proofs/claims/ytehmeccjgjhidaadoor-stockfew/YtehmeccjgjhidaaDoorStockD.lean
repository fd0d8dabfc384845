/-
  Push: what is refused, and what comes on top.
-/
import Derived.Test.YtehmeccjgjhidaaDoorStockC
import Derived.Lib.QuietBelow
namespace Go.Proofs.YtehmeccjgjhidaaDoor
open Go.RowKit Go.Maps Go.Sort

set_option maxRecDepth 20000 in
set_option maxHeartbeats 4000000 in
theorem push_no (sb clb pb : Nat) (W S B T : Int) (len : Nat) (f : Nat → Int) (n : Nat) (P : Nat → List (Int × Int)) (L : Nat → Value) (M : Nat → Nat) (k : Nat) (x : Int × Int) (w : World) (h : Hid (Stk w sb clb pb W S B T len f n P L M)) (hk : k < len) (ok : Hid (ClsOk len f)) (s0 : 0 ≤ S) (s1 : S ≤ 1000) (hx : Bd x) (hc : adrI S len f (k : Nat) x.1 x.2 = 0 ∨ x ∈ P k) :
    Calls Tryd.prog 7 #[.pointer (some ⟨sb, 0, none⟩), .int .i64 (k : Nat), .agg #[.int .i64 x.1, .int .i64 x.2]] w fun e w' => e = .returned (.bool false) ∧ Below w.heap.size w w' := by
  have X0 : Hid (Two5 (w.alloc (.cells #[.int .i64 x.1, .int .i64 x.2] 32)) w.heap.size 32 x.1 x.2) := Two5.new w _ _ _
  have K0 := Lib.hid (h.out.next (box1 w (.cells #[.int .i64 x.1, .int .i64 x.2] 32)))
  have B0 := Lib.hid (box1 w (.cells #[.int .i64 x.1, .int .i64 x.2] 32))
  go_enter Tryd.func7, Tryd.ntmps7
  go_wp2_with fail
  generalize w.alloc (.cells #[.int .i64 x.1, .int .i64 x.2] 32) = w0 at *
  generalize hN : w.heap.size = N at *
  refine (pile_in sb clb pb W S B T len f n P L M k w0 K0 hk).mono ?_
  rintro e w1 ⟨rfl, rfl⟩
  go_upto_region 2 with fail
  obtain ⟨c0, c1, c2, c3, c4, c5⟩ := K0.out.cells
  obtain ⟨p0, p1⟩ := K0.out.cell hk
  have x0 : w0.cell? ⟨N, 0, none⟩ = some (.int .i64 x.1) := by rw [cell_of X0.out]; rfl
  have x1 : w0.cell? ⟨N, 1, none⟩ = some (.int .i64 x.2) := by rw [cell_of X0.out]; rfl
  have lk : ∀ d os, (Instr.lookup 51 (.map (some (M k))) (.agg #[.int .i64 x.1, .int .i64 x.2]) false).run Tryd.prog (Sort.grow (redrawn w0 d) os) = .ok (.bool (decide (x ∈ P k))) (Sort.grow (redrawn w0 d) os) := fun d os => ((K0.out.set k hk).next (below_regrown w0 d os)).look hx
  by_cases hz : adrI S len f (k : Nat) x.1 x.2 = 0
  · clear hc
    have j0 := cell_regrown c0
    have j1 := cell_regrown c1
    have j2 := cell_regrown c2
    have j3 := cell_regrown c3
    have j4 := cell_regrown c4
    have j5 := cell_regrown p1
    have j6 := cell_regrown x0
    have j7 := cell_regrown x1
    have a1 := fun d os => Calls.regrown_of (address_any W S B T (some ⟨clb, 0, none⟩) len len f (k : Nat) x.1 x.2 (grow (redrawn w0 d) os) (Lib.hid (K0.out.rowI.next (below_regrown w0 d os))) ok s0 s1)
    have g0 : (adrI S len f (k : Nat) x.1 x.2 == 0) = true := by simpa using hz
    clear hz
    generalize adrI S len f (k : Nat) x.1 x.2 = A at *
    refine wp_region_quiet_below (by kernel_rfl) (by kernel_rfl) ?_
    repeat (go_big_quiet_step (first | exact a1 _ _))
    refine wpQuiet_nil ?_
    intro _ hw'
    obtain ⟨⟨dq, osq⟩, hw''⟩ := hw'
    subst hw''
    have bg := below_regrown w0 dq osq
    have K4 := Lib.hid (K0.out.next bg)
    have X4 := Lib.hid (X0.out.next bg)
    have B4 : Hid (Below N w _) := B0.out.trans (bg.mono (by have := B0.out.size; omega))
    clear a1 j0 j1 j2 j3 j4 j5 j6 j7 bg lk c0 c1 c2 c3 c4 c5 p0 p1 x0 x1 K0 X0 B0
    generalize Sort.grow (redrawn w0 dq) osq = w4 at *
    go_wp2_with fail
    go_ret
    exact ⟨rfl, by rw [hN]; exact B4.out⟩
  · have hm : x ∈ P k := hc.resolve_left hz
    simp only [decide_eq_true hm] at lk
    clear hc hm
    have j0 := cell_regrown c0
    have j1 := cell_regrown c1
    have j2 := cell_regrown c2
    have j3 := cell_regrown c3
    have j4 := cell_regrown c4
    have j5 := cell_regrown p1
    have j6 := cell_regrown x0
    have j7 := cell_regrown x1
    have a1 := fun d os => Calls.regrown_of (address_any W S B T (some ⟨clb, 0, none⟩) len len f (k : Nat) x.1 x.2 (grow (redrawn w0 d) os) (Lib.hid (K0.out.rowI.next (below_regrown w0 d os))) ok s0 s1)
    have g0 : (adrI S len f (k : Nat) x.1 x.2 == 0) = false := by simpa using hz
    clear hz
    generalize adrI S len f (k : Nat) x.1 x.2 = A at *
    refine wp_region_quiet_below (by kernel_rfl) (by kernel_rfl) ?_
    repeat (go_big_quiet_step (first | exact a1 _ _))
    refine wpQuiet_nil ?_
    intro _ hw'
    obtain ⟨⟨dq, osq⟩, hw''⟩ := hw'
    subst hw''
    have bg := below_regrown w0 dq osq
    have K4 := Lib.hid (K0.out.next bg)
    have X4 := Lib.hid (X0.out.next bg)
    have B4 : Hid (Below N w _) := B0.out.trans (bg.mono (by have := B0.out.size; omega))
    clear a1 j0 j1 j2 j3 j4 j5 j6 j7 bg lk c0 c1 c2 c3 c4 c5 p0 p1 x0 x1 K0 X0 B0
    generalize Sort.grow (redrawn w0 dq) osq = w4 at *
    go_wp2_with fail
    go_ret
    exact ⟨rfl, by rw [hN]; exact B4.out⟩
theorem two_c0 {w : World} {N : Nat} {t : TypeId} {a b : Int} (h : Two5 w N t a b) : w.cell? ⟨N, 0, none⟩ = some (.int .i64 a) := by rw [cell_of h]; rfl
theorem two_c1 {w : World} {N : Nat} {t : TypeId} {a b : Int} (h : Two5 w N t a b) : w.cell? ⟨N, 1, none⟩ = some (.int .i64 b) := by rw [cell_of h]; rfl
theorem BkRow.lt' {w : World} {v : Value} {l : List (Int × Int)} (h : BkRow w v l) {b : Nat} (hb : v.ownBlock = some b) : b < w.heap.size := by
  obtain ⟨cur, hc⟩ := h.obj hb
  exact heap_lt hc
set_option maxRecDepth 20000 in
set_option maxHeartbeats 8000000 in
theorem push_yes (sb clb pb : Nat) (W S B T : Int) (len : Nat) (f : Nat → Int) (n : Nat) (P : Nat → List (Int × Int)) (L : Nat → Value) (M : Nat → Nat) (k : Nat) (x : Int × Int) (w : World) (h : Hid (Stk w sb clb pb W S B T len f n P L M)) (hk : k < len) (ok : Hid (ClsOk len f)) (s0 : 0 ≤ S) (s1 : S ≤ 1000) (hx : Bd x) (hn : n < 1048576) (hc : adrI S len f (k : Nat) x.1 x.2 ≠ 0) (hm : x ∉ P k) :
    Calls Tryd.prog 7 #[.pointer (some ⟨sb, 0, none⟩), .int .i64 (k : Nat), .agg #[.int .i64 x.1, .int .i64 x.2]] w fun e w' => e = .returned (.bool true) ∧ ∃ v', Stk w' sb clb pb W S B T len f (n + 1) (updP P k (P k ++ [x])) (updL L k v') M ∧ Only ([pb, M k] ++ (L k).ownBlock.toList) w w' ∧ (v'.ownBlock = (L k).ownBlock ∨ ∃ b, v'.ownBlock = some b ∧ w.heap.size ≤ b) := by
  have few := (h.out.bd k hk).1
  have NL : Hid (∀ b, (L k).ownBlock = some b → b < w.heap.size) := Lib.hid (fun b hb => (h.out.lst k hk).lt' hb)
  have X0 : Hid (Two5 (w.alloc (.cells #[.int .i64 x.1, .int .i64 x.2] 32)) w.heap.size 32 x.1 x.2) := Two5.new w _ _ _
  have K0 := Lib.hid (h.out.next (box1 w (.cells #[.int .i64 x.1, .int .i64 x.2] 32)))
  have B0 := Lib.hid (box1 w (.cells #[.int .i64 x.1, .int .i64 x.2] 32))
  go_enter Tryd.func7, Tryd.ntmps7
  go_wp2_with fail
  generalize w.alloc (.cells #[.int .i64 x.1, .int .i64 x.2] 32) = w0 at *
  generalize hN : w.heap.size = N at *
  refine (pile_in sb clb pb W S B T len f n P L M k w0 K0 hk).mono ?_
  rintro e w1 ⟨rfl, rfl⟩
  go_upto_region 2 with fail
  obtain ⟨c0, c1, c2, c3, c4, c5⟩ := K0.out.cells
  obtain ⟨p0, p1⟩ := K0.out.cell hk
  have x0 : w0.cell? ⟨N, 0, none⟩ = some (.int .i64 x.1) := by rw [cell_of X0.out]; rfl
  have x1 : w0.cell? ⟨N, 1, none⟩ = some (.int .i64 x.2) := by rw [cell_of X0.out]; rfl
  have lk : ∀ d os, (Instr.lookup 51 (.map (some (M k))) (.agg #[.int .i64 x.1, .int .i64 x.2]) false).run Tryd.prog (Sort.grow (redrawn w0 d) os) = .ok (.bool (decide (x ∈ P k))) (Sort.grow (redrawn w0 d) os) := fun d os => ((K0.out.set k hk).next (below_regrown w0 d os)).look hx
  simp only [decide_eq_false hm] at lk
  have j0 := cell_regrown c0
  have j1 := cell_regrown c1
  have j2 := cell_regrown c2
  have j3 := cell_regrown c3
  have j4 := cell_regrown c4
  have j5 := cell_regrown p1
  have j6 := cell_regrown x0
  have j7 := cell_regrown x1
  have a1 := fun d os => Calls.regrown_of (address_any W S B T (some ⟨clb, 0, none⟩) len len f (k : Nat) x.1 x.2 (grow (redrawn w0 d) os) (Lib.hid (K0.out.rowI.next (below_regrown w0 d os))) ok s0 s1)
  have g0 : (adrI S len f (k : Nat) x.1 x.2 == 0) = false := by simpa using hc
  clear hc
  generalize adrI S len f (k : Nat) x.1 x.2 = A at *
  refine wp_region_quiet_below (by kernel_rfl) (by kernel_rfl) ?_
  repeat (go_big_quiet_step (first | exact a1 _ _))
  refine wpQuiet_nil ?_
  intro _ hw'
  obtain ⟨⟨dq, osq⟩, hw''⟩ := hw'
  subst hw''
  have bg := below_regrown w0 dq osq
  have K4 := Lib.hid (K0.out.next bg)
  have X4 := Lib.hid (X0.out.next bg)
  have B4 : Hid (Below N w _) := B0.out.trans (bg.mono (by have := B0.out.size; omega))
  clear a1 j0 j1 j2 j3 j4 j5 j6 j7 bg lk c0 c1 c2 c3 c4 c5 p0 p1 x0 x1 K0 X0 B0
  generalize Sort.grow (redrawn w0 dq) osq = w4 at *
  go_upto_region 4 with fail
  refine wp_region_noPanic ?_
  refine wp_region_held_drew (S := fun w' => Two5 w' N 32 x.1 x.2) (by kernel_rfl) (X4.out) (fun hHeld => ?_)
  have DR := (Below.refl w4.heap.size w4).drew
  have K5 := Lib.hid (K4.out.next DR)
  have X5 := Lib.hid (X4.out.next DR)
  have B5 : Hid (Below N w w4.drew) := B4.out.drew
  clear DR K4 X4 B4
  generalize w4.drew = z0 at *
  refine wpAnyH_take (i := 0) (v := .pointer (some ⟨pb, k * 2, none⟩)) rfl (by kernel_rfl) (by kernel_rfl) (by kernel_rfl) (fun _ _ _ h => h) (Or.inl ⟨by rfl, fun w hSw => by have b0 := two_c0 hSw; have b1 := two_c1 hSw; go_simp⟩) (by assumption) ?_
  change wpAnyH _ _ _ _ _ _ _ (Act.put _ (some 31) _) _
  simp only [Act.put, List.setIfInBounds_toArray, List.set_cons_zero, List.set_cons_succ]
  refine wpAnyH_take (i := 1) (v := .pointer (some ⟨pb, k * 2, none⟩)) rfl (by kernel_rfl) (by kernel_rfl) (by kernel_rfl) (fun _ _ _ h => h) (Or.inl ⟨by rfl, fun w hSw => by have b0 := two_c0 hSw; have b1 := two_c1 hSw; go_simp⟩) (by assumption) ?_
  change wpAnyH _ _ _ _ _ _ _ (Act.put _ (some 32) _) _
  simp only [Act.put, List.setIfInBounds_toArray, List.set_cons_zero, List.set_cons_succ]
  refine wpAnyH_take (i := 2) (v := .pointer (some ⟨pb, k * 2, none⟩)) rfl (by kernel_rfl) (by kernel_rfl) (by kernel_rfl) (fun _ _ _ h => h) (Or.inl ⟨by rfl, fun w hSw => by have b0 := two_c0 hSw; have b1 := two_c1 hSw; go_simp⟩) (by assumption) ?_
  change wpAnyH _ _ _ _ _ _ _ (Act.put _ (some 33) _) _
  simp only [Act.put, List.setIfInBounds_toArray, List.set_cons_zero, List.set_cons_succ]
  refine wpAnyH_take (i := 3) (v := .pointer (some ⟨pb, k * 2, none⟩)) rfl (by kernel_rfl) (by kernel_rfl) (by kernel_rfl) (fun _ _ _ h => h) (Or.inl ⟨by rfl, fun w hSw => by have b0 := two_c0 hSw; have b1 := two_c1 hSw; go_simp⟩) (by assumption) ?_
  change wpAnyH _ _ _ _ _ _ _ (Act.put _ (some 34) _) _
  simp only [Act.put, List.setIfInBounds_toArray, List.set_cons_zero, List.set_cons_succ]
  refine wpAnyH_take (i := 5) (v := .agg #[.int .i64 x.1, .int .i64 x.2]) rfl (by kernel_rfl) (by kernel_rfl) (by kernel_rfl) (fun _ _ _ h => h) (Or.inl ⟨by rfl, fun w hSw => by have b0 := two_c0 hSw; have b1 := two_c1 hSw; go_simp⟩) (by assumption) ?_
  change wpAnyH _ _ _ _ _ _ _ (Act.put _ (some 36) _) _
  simp only [Act.put, List.setIfInBounds_toArray, List.set_cons_zero, List.set_cons_succ]
  refine wpAnyH_ready (rs := [4, 6]) (by kernel_rfl) (by simp) ?_
  refine AllReadyH.cons rfl (fun K hK => ?_) (AllReadyH.cons rfl (fun K hK => ?_) (AllReadyH.nil))
  · obtain ⟨p0, _⟩ := K5.out.cell hk
    go_simp
    refine hK.out _ _ (X5.out) (fun hHeld1 => ?_)
    clear hK K p0
    refine wpAnyH_ready (rs := [6]) (by kernel_rfl) (by simp) ?_
    refine AllReadyH.cons rfl (fun K hK => ?_) AllReadyH.nil
    go_simp
    have hb := box1 z0 (.cells #[.int .i64 x.1, .int .i64 x.2] 32)
    have TB : Hid ((z0.alloc (.cells #[.int .i64 x.1, .int .i64 x.2] 32)).heap[z0.heap.size]? = some (.cells (bkE x).toArray 32 (0, 0))) := heap_new z0 _
    have K6 := Lib.hid (K5.out.next hb)
    have X6 := Lib.hid (X5.out.next hb)
    have B6 : Hid (Below N w _) := B5.out.trans (hb.mono (by have := B5.out.size; omega))
    clear hb
    refine hK.out _ _ (X6.out) (fun hHeldB => ?_)
    clear hK K
    generalize z0.alloc (.cells #[.int .i64 x.1, .int .i64 x.2] 32) = z1 at *
    generalize z0.heap.size = Q at *
    refine wpAnyH_ready (rs := [7]) (by kernel_rfl) (by simp) ?_
    refine AllReadyH.cons rfl (fun K hK => ?_) AllReadyH.nil
    obtain ⟨v', wa, hrun, r1, r2, r3, bq, cq, hvq⟩ := BkRow.app (vb := Q) (x := x) (K6.out.lst k hk) TB.out (by omega) 25
    refine step_append_bk rfl _ _ 25 25 rfl _ _ (by simp [Act.eval]) (by simp [Act.eval]) hrun ?_
    have O1 : Hid (Only (L k).ownBlock.toList z1 wa) := Only.of_grown r2 (fun b hb => by simp [hb])
    have BK := Lib.hid r1
    have OW := Lib.hid r3
    have nN : N ∉ (L k).ownBlock.toList := fun hm => by
      simp at hm
      have := NL.out N hm
      omega
    have XA : Hid (Two5 wa N 32 x.1 x.2) := O1.out.at X6.out nN
    refine hK.out _ _ (XA.out) (fun hHeldA => ?_)
    clear hK K hrun r1 r2 r3
    change wpAnyH _ _ _ _ _ _ _ (Act.put _ (some 38) _) _
    simp only [Act.put, List.setIfInBounds_toArray, List.set_cons_zero, List.set_cons_succ]
    refine wpAnyH_take (i := 8) (v := .pointer (some ⟨pb, k * 2, none⟩)) rfl (by kernel_rfl) (by kernel_rfl) (by kernel_rfl) (fun _ _ _ h => h) (Or.inl ⟨by rfl, fun w hSw => by have b0 := two_c0 hSw; have b1 := two_c1 hSw; go_simp⟩) (by assumption) ?_
    change wpAnyH _ _ _ _ _ _ _ (Act.put _ (some 39) _) _
    simp only [Act.put, List.setIfInBounds_toArray, List.set_cons_zero, List.set_cons_succ]
    refine wpAnyH_take (i := 9) (v := .pointer (some ⟨pb, k * 2, none⟩)) rfl (by kernel_rfl) (by kernel_rfl) (by kernel_rfl) (fun _ _ _ h => h) (Or.inl ⟨by rfl, fun w hSw => by have b0 := two_c0 hSw; have b1 := two_c1 hSw; go_simp⟩) (by assumption) ?_
    change wpAnyH _ _ _ _ _ _ _ (Act.put _ (some 40) _) _
    simp only [Act.put, List.setIfInBounds_toArray, List.set_cons_zero, List.set_cons_succ]
    refine wpAnyH_ready (rs := [10]) (by kernel_rfl) (by simp) ?_
    refine AllReadyH.cons rfl (fun K hK => ?_) AllReadyH.nil
    have np : pb ∉ (L k).ownBlock.toList := fun hm => by
      simp at hm
      obtain ⟨cur, hc⟩ := (K6.out.lst k hk).obj hm
      have := hc.symm.trans K6.out.pil
      simp at this
    have PA := Lib.hid (O1.out.at K6.out.pil np)
    have cp : wa.cell? ⟨pb, k * 2, none⟩ = some (L k) := by
      have := (piles_at (L := L) (M := M) hk).1
      rw [cell_of PA.out]
      simpa using this
    have fp := frozen_of (j := k * 2) PA.out
    subst hvq
    have S1 : Hid (Only [pb] wa (wa.setCell ⟨pb, k * 2, none⟩ (.slice (some ⟨bq, 0, none⟩) ((P k).length + 1) cq))) := Only.of_set (by simp) _
    have PB : Hid ((wa.setCell ⟨pb, k * 2, none⟩ (.slice (some ⟨bq, 0, none⟩) ((P k).length + 1) cq)).heap[pb]? = some (.cells (pilesOf (updL L k (.slice (some ⟨bq, 0, none⟩) ((P k).length + 1) cq)) M len).toArray 53 (0, 0))) := by
      show _ = _
      rw [set_of PA.out, ← piles_set hk]
      simp
    have npN : N ≠ pb := fun e => by have := XA.out; rw [e] at this; have := this.symm.trans PA.out; simp at this
    have XB : Hid (Two5 (wa.setCell ⟨pb, k * 2, none⟩ (.slice (some ⟨bq, 0, none⟩) ((P k).length + 1) cq)) N 32 x.1 x.2) := S1.out.at XA.out (by simpa using npN)
    go_simp
    refine hK.out _ _ (XB.out) (fun hHeldZ => ?_)
    clear hK K cp fp
    refine ⟨by kernel_rfl, ?_⟩
    refine NoPanic.normal ?_
    have OY : Hid (Only ([pb, M k] ++ (L k).ownBlock.toList) z1 (wa.setCell ⟨pb, k * 2, none⟩ (.slice (some ⟨bq, 0, none⟩) ((P k).length + 1) cq))) := (O1.out.mono (fun b hb => .inl (by simp at hb ⊢; exact .inr (.inr hb)))).trans (S1.out.mono (fun b hb => .inl (by simp at hb ⊢; exact .inl hb)))
    have BKB : Hid (BkRow (wa.setCell ⟨pb, k * 2, none⟩ (.slice (some ⟨bq, 0, none⟩) ((P k).length + 1) cq)) (.slice (some ⟨bq, 0, none⟩) ((P k).length + 1) cq) (P k ++ [x])) := ORow.stay BK.out S1.out (fun b hb => by
      obtain ⟨cur, hc⟩ := BK.out.obj hb
      simp
      intro e
      subst e
      have := hc.symm.trans PA.out
      simp at this)
    have nM : M k ∉ (L k).ownBlock.toList := fun hm => by
      simp at hm
      obtain ⟨cur, hc⟩ := (K6.out.lst k hk).obj hm
      obtain ⟨es, c, hm2⟩ := (K6.out.set k hk).obj
      have := hc.symm.trans hm2
      simp at this
    have nMp : M k ≠ pb := fun e => by
      obtain ⟨es, c, hm2⟩ := (K6.out.set k hk).obj
      rw [e] at hm2
      have := hm2.symm.trans K6.out.pil
      simp at this
    have BSB : Hid (BSet (wa.setCell ⟨pb, k * 2, none⟩ (.slice (some ⟨bq, 0, none⟩) ((P k).length + 1) cq)) (M k) n (P k)) := ((K6.out.set k hk).stay O1.out nM).stay S1.out (by simpa using nMp)
    have KY := K6
    have BY := B6
    clear O1 BK S1 PA XA
    generalize wa.setCell ⟨pb, k * 2, none⟩ (.slice (some ⟨bq, 0, none⟩) ((P k).length + 1) cq) = wb at *
    go_upto_region 5 with fail
    have cm : wb.cell? ⟨pb, k * 2 + 1, none⟩ = some (.map (some (M k))) := by
      have := (piles_at (L := updL L k (.slice (some ⟨bq, 0, none⟩) ((P k).length + 1) cq)) (M := M) hk).2
      rw [cell_of PB.out]
      simpa using this
    refine wp_region_noPanic ?_
    refine wp_region_held_drew (S := fun w' => Two5 w' N 32 x.1 x.2 ∧ w'.cell? ⟨pb, k * 2 + 1, none⟩ = some (.map (some (M k)))) (by kernel_rfl) (⟨XB.out, cm⟩) (fun hHeld => ?_)
    have DR := (Below.refl wb.heap.size wb).drew
    have PB2 : Hid (wb.drew.heap[pb]? = _) := PB.out
    have BK2 : Hid (BkRow wb.drew _ _) := ORow.next BKB.out DR
    have BS2 := Lib.hid (BSB.out.next DR)
    have OY2 := Lib.hid (OY.out.trans (Only.of_below DR))
    have XB2 : Hid (Two5 wb.drew N 32 x.1 x.2) := XB.out
    have cm2 : wb.drew.cell? ⟨pb, k * 2 + 1, none⟩ = some (.map (some (M k))) := cm
    clear DR PB BKB BSB OY XB cm
    generalize wb.drew = z5 at *
    refine wpAnyH_take (i := 0) (v := .pointer (some ⟨pb, k * 2, none⟩)) rfl (by kernel_rfl) (by kernel_rfl) (by kernel_rfl) (fun _ _ _ h => h) (Or.inl ⟨by rfl, fun w hSw => by obtain ⟨s1, s2⟩ := hSw; have b0 := two_c0 s1; have b1 := two_c1 s1; go_simp⟩) (by assumption) ?_
    change wpAnyH _ _ _ _ _ _ _ (Act.put _ (some 41) _) _
    simp only [Act.put, List.setIfInBounds_toArray, List.set_cons_zero, List.set_cons_succ]
    refine wpAnyH_take (i := 1) (v := .pointer (some ⟨pb, k * 2, none⟩)) rfl (by kernel_rfl) (by kernel_rfl) (by kernel_rfl) (fun _ _ _ h => h) (Or.inl ⟨by rfl, fun w hSw => by obtain ⟨s1, s2⟩ := hSw; have b0 := two_c0 s1; have b1 := two_c1 s1; go_simp⟩) (by assumption) ?_
    change wpAnyH _ _ _ _ _ _ _ (Act.put _ (some 42) _) _
    simp only [Act.put, List.setIfInBounds_toArray, List.set_cons_zero, List.set_cons_succ]
    refine wpAnyH_take (i := 2) (v := .pointer (some ⟨pb, k * 2 + 1, none⟩)) rfl (by kernel_rfl) (by kernel_rfl) (by kernel_rfl) (fun _ _ _ h => h) (Or.inl ⟨by rfl, fun w hSw => by obtain ⟨s1, s2⟩ := hSw; have b0 := two_c0 s1; have b1 := two_c1 s1; go_simp⟩) (by assumption) ?_
    change wpAnyH _ _ _ _ _ _ _ (Act.put _ (some 43) _) _
    simp only [Act.put, List.setIfInBounds_toArray, List.set_cons_zero, List.set_cons_succ]
    refine wpAnyH_take (i := 3) (v := .map (some (M k))) rfl (by kernel_rfl) (by kernel_rfl) (by kernel_rfl) (fun _ _ _ h => h) (Or.inl ⟨by rfl, fun w hSw => by obtain ⟨s1, s2⟩ := hSw; have b0 := two_c0 s1; have b1 := two_c1 s1; go_simp⟩) (by assumption) ?_
    change wpAnyH _ _ _ _ _ _ _ (Act.put _ (some 44) _) _
    simp only [Act.put, List.setIfInBounds_toArray, List.set_cons_zero, List.set_cons_succ]
    refine wpAnyH_take (i := 4) (v := .agg #[.int .i64 x.1, .int .i64 x.2]) rfl (by kernel_rfl) (by kernel_rfl) (by kernel_rfl) (fun _ _ _ h => h) (Or.inl ⟨by rfl, fun w hSw => by obtain ⟨s1, s2⟩ := hSw; have b0 := two_c0 s1; have b1 := two_c1 s1; go_simp⟩) (by assumption) ?_
    change wpAnyH _ _ _ _ _ _ _ (Act.put _ (some 45) _) _
    simp only [Act.put, List.setIfInBounds_toArray, List.set_cons_zero, List.set_cons_succ]
    refine wpAnyH_ready (rs := [5]) (by kernel_rfl) (by simp) ?_
    refine AllReadyH.cons rfl (fun K hK => ?_) AllReadyH.nil
    obtain ⟨wm, hrunm, m1, m2⟩ := BS2.out.put hx hn
    unfold bkV at hrunm
    have OM : Hid (Only [M k] z5 wm) := Only.of_grown m2 (fun b hb => by simp at hb ⊢; exact hb.symm)
    have BSM := Lib.hid m1
    have XM : Hid (Two5 wm N 32 x.1 x.2) := OM.out.at XB2.out (by
      simp
      intro e
      obtain ⟨es, c, hm2⟩ := BS2.out.obj
      rw [← e] at hm2
      have := hm2.symm.trans XB2.out
      simp at this)
    have PM : Hid (wm.heap[pb]? = _) := OM.out.at PB2.out (by simpa using nMp.symm)
    have cm3 : wm.cell? ⟨pb, k * 2 + 1, none⟩ = some (.map (some (M k))) := by
      have := (piles_at (L := updL L k (.slice (some ⟨bq, 0, none⟩) ((P k).length + 1) cq)) (M := M) hk).2
      rw [cell_of PM.out]
      simpa using this
    go_simp
    refine hK.out _ _ (⟨XM.out, cm3⟩) (fun hHeldM => ?_)
    clear hK K hrunm m1 m2
    refine ⟨by kernel_rfl, ?_⟩
    refine NoPanic.normal ?_
    have BKM : Hid (BkRow wm (.slice (some ⟨bq, 0, none⟩) ((P k).length + 1) cq) (P k ++ [x])) := ORow.stay BK2.out OM.out (fun b hb => by
      obtain ⟨cur, hc⟩ := BK2.out.obj hb
      obtain ⟨es, c, hm2⟩ := BS2.out.obj
      simp
      intro e
      subst e
      have := hc.symm.trans hm2
      simp at this)
    have OF : Hid (Only ([pb, M k] ++ (L k).ownBlock.toList) z1 wm) := OY2.out.trans (OM.out.mono (fun b hb => .inl (by simp at hb ⊢; exact .inr (.inl hb))))
    have KF : Hid (Stk wm sb clb pb W S B T len f (n + 1) (updP P k (P k ++ [x])) (updL L k (.slice (some ⟨bq, 0, none⟩) ((P k).length + 1) cq)) M) := KY.out.turn hk OF.out (fun b hb => by simp at hb; rcases hb with h | h | h; exact .inl h; exact .inr (.inl h); exact .inr (.inr (.inl h))) PM.out BKM.out (BSM.out.congr (fun y => by simp [or_comm])) ⟨by simp; exact few, fun y hy => by rcases List.mem_append.1 hy with h | h; exact (KY.out.bd k hk).2 y h; simp at h; subst h; exact hx⟩ (by omega) (by
      rcases OW.out with h | h
      · exact .inl h
      · exact .inr (.inr ⟨_, h, Nat.le_refl _⟩))
    clear BKM BSM PM OM BK2 BS2 PB2 XB2 XM
    go_wp2_with fail
    go_ret
    refine ⟨rfl, _, KF.out, ?_, ?_⟩
    · have OB : Only ([pb, M k] ++ (L k).ownBlock.toList) w z1 := Only.of_below (by rw [hN]; exact BY.out)
      exact OB.trans OF.out
    · have BYS := BY.out.size
      rcases OW.out with h | h
      · exact .inl h
      · exact .inr ⟨_, h, by omega⟩

  · go_simp
    have hb := box1 z0 (.cells #[.int .i64 x.1, .int .i64 x.2] 32)
    have TB : Hid ((z0.alloc (.cells #[.int .i64 x.1, .int .i64 x.2] 32)).heap[z0.heap.size]? = some (.cells (bkE x).toArray 32 (0, 0))) := heap_new z0 _
    have K6 := Lib.hid (K5.out.next hb)
    have X6 := Lib.hid (X5.out.next hb)
    have B6 : Hid (Below N w _) := B5.out.trans (hb.mono (by have := B5.out.size; omega))
    clear hb
    refine hK.out _ _ (X6.out) (fun hHeldB => ?_)
    clear hK K
    generalize z0.alloc (.cells #[.int .i64 x.1, .int .i64 x.2] 32) = z1 at *
    generalize z0.heap.size = Q at *
    refine wpAnyH_ready (rs := [4]) (by kernel_rfl) (by simp) ?_
    refine AllReadyH.cons rfl (fun K hK => ?_) AllReadyH.nil
    obtain ⟨p0, _⟩ := K6.out.cell hk
    go_simp
    refine hK.out _ _ (X6.out) (fun hHeld1 => ?_)
    clear hK K p0
    refine wpAnyH_ready (rs := [7]) (by kernel_rfl) (by simp) ?_
    refine AllReadyH.cons rfl (fun K hK => ?_) AllReadyH.nil
    obtain ⟨v', wa, hrun, r1, r2, r3, bq, cq, hvq⟩ := BkRow.app (vb := Q) (x := x) (K6.out.lst k hk) TB.out (by omega) 25
    refine step_append_bk rfl _ _ 25 25 rfl _ _ (by simp [Act.eval]) (by simp [Act.eval]) hrun ?_
    have O1 : Hid (Only (L k).ownBlock.toList z1 wa) := Only.of_grown r2 (fun b hb => by simp [hb])
    have BK := Lib.hid r1
    have OW := Lib.hid r3
    have nN : N ∉ (L k).ownBlock.toList := fun hm => by
      simp at hm
      have := NL.out N hm
      omega
    have XA : Hid (Two5 wa N 32 x.1 x.2) := O1.out.at X6.out nN
    refine hK.out _ _ (XA.out) (fun hHeldA => ?_)
    clear hK K hrun r1 r2 r3
    change wpAnyH _ _ _ _ _ _ _ (Act.put _ (some 38) _) _
    simp only [Act.put, List.setIfInBounds_toArray, List.set_cons_zero, List.set_cons_succ]
    refine wpAnyH_take (i := 8) (v := .pointer (some ⟨pb, k * 2, none⟩)) rfl (by kernel_rfl) (by kernel_rfl) (by kernel_rfl) (fun _ _ _ h => h) (Or.inl ⟨by rfl, fun w hSw => by have b0 := two_c0 hSw; have b1 := two_c1 hSw; go_simp⟩) (by assumption) ?_
    change wpAnyH _ _ _ _ _ _ _ (Act.put _ (some 39) _) _
    simp only [Act.put, List.setIfInBounds_toArray, List.set_cons_zero, List.set_cons_succ]
    refine wpAnyH_take (i := 9) (v := .pointer (some ⟨pb, k * 2, none⟩)) rfl (by kernel_rfl) (by kernel_rfl) (by kernel_rfl) (fun _ _ _ h => h) (Or.inl ⟨by rfl, fun w hSw => by have b0 := two_c0 hSw; have b1 := two_c1 hSw; go_simp⟩) (by assumption) ?_
    change wpAnyH _ _ _ _ _ _ _ (Act.put _ (some 40) _) _
    simp only [Act.put, List.setIfInBounds_toArray, List.set_cons_zero, List.set_cons_succ]
    refine wpAnyH_ready (rs := [10]) (by kernel_rfl) (by simp) ?_
    refine AllReadyH.cons rfl (fun K hK => ?_) AllReadyH.nil
    have np : pb ∉ (L k).ownBlock.toList := fun hm => by
      simp at hm
      obtain ⟨cur, hc⟩ := (K6.out.lst k hk).obj hm
      have := hc.symm.trans K6.out.pil
      simp at this
    have PA := Lib.hid (O1.out.at K6.out.pil np)
    have cp : wa.cell? ⟨pb, k * 2, none⟩ = some (L k) := by
      have := (piles_at (L := L) (M := M) hk).1
      rw [cell_of PA.out]
      simpa using this
    have fp := frozen_of (j := k * 2) PA.out
    subst hvq
    have S1 : Hid (Only [pb] wa (wa.setCell ⟨pb, k * 2, none⟩ (.slice (some ⟨bq, 0, none⟩) ((P k).length + 1) cq))) := Only.of_set (by simp) _
    have PB : Hid ((wa.setCell ⟨pb, k * 2, none⟩ (.slice (some ⟨bq, 0, none⟩) ((P k).length + 1) cq)).heap[pb]? = some (.cells (pilesOf (updL L k (.slice (some ⟨bq, 0, none⟩) ((P k).length + 1) cq)) M len).toArray 53 (0, 0))) := by
      show _ = _
      rw [set_of PA.out, ← piles_set hk]
      simp
    have npN : N ≠ pb := fun e => by have := XA.out; rw [e] at this; have := this.symm.trans PA.out; simp at this
    have XB : Hid (Two5 (wa.setCell ⟨pb, k * 2, none⟩ (.slice (some ⟨bq, 0, none⟩) ((P k).length + 1) cq)) N 32 x.1 x.2) := S1.out.at XA.out (by simpa using npN)
    go_simp
    refine hK.out _ _ (XB.out) (fun hHeldZ => ?_)
    clear hK K cp fp
    refine ⟨by kernel_rfl, ?_⟩
    refine NoPanic.normal ?_
    have OY : Hid (Only ([pb, M k] ++ (L k).ownBlock.toList) z1 (wa.setCell ⟨pb, k * 2, none⟩ (.slice (some ⟨bq, 0, none⟩) ((P k).length + 1) cq))) := (O1.out.mono (fun b hb => .inl (by simp at hb ⊢; exact .inr (.inr hb)))).trans (S1.out.mono (fun b hb => .inl (by simp at hb ⊢; exact .inl hb)))
    have BKB : Hid (BkRow (wa.setCell ⟨pb, k * 2, none⟩ (.slice (some ⟨bq, 0, none⟩) ((P k).length + 1) cq)) (.slice (some ⟨bq, 0, none⟩) ((P k).length + 1) cq) (P k ++ [x])) := ORow.stay BK.out S1.out (fun b hb => by
      obtain ⟨cur, hc⟩ := BK.out.obj hb
      simp
      intro e
      subst e
      have := hc.symm.trans PA.out
      simp at this)
    have nM : M k ∉ (L k).ownBlock.toList := fun hm => by
      simp at hm
      obtain ⟨cur, hc⟩ := (K6.out.lst k hk).obj hm
      obtain ⟨es, c, hm2⟩ := (K6.out.set k hk).obj
      have := hc.symm.trans hm2
      simp at this
    have nMp : M k ≠ pb := fun e => by
      obtain ⟨es, c, hm2⟩ := (K6.out.set k hk).obj
      rw [e] at hm2
      have := hm2.symm.trans K6.out.pil
      simp at this
    have BSB : Hid (BSet (wa.setCell ⟨pb, k * 2, none⟩ (.slice (some ⟨bq, 0, none⟩) ((P k).length + 1) cq)) (M k) n (P k)) := ((K6.out.set k hk).stay O1.out nM).stay S1.out (by simpa using nMp)
    have KY := K6
    have BY := B6
    clear O1 BK S1 PA XA
    generalize wa.setCell ⟨pb, k * 2, none⟩ (.slice (some ⟨bq, 0, none⟩) ((P k).length + 1) cq) = wb at *
    go_upto_region 5 with fail
    have cm : wb.cell? ⟨pb, k * 2 + 1, none⟩ = some (.map (some (M k))) := by
      have := (piles_at (L := updL L k (.slice (some ⟨bq, 0, none⟩) ((P k).length + 1) cq)) (M := M) hk).2
      rw [cell_of PB.out]
      simpa using this
    refine wp_region_noPanic ?_
    refine wp_region_held_drew (S := fun w' => Two5 w' N 32 x.1 x.2 ∧ w'.cell? ⟨pb, k * 2 + 1, none⟩ = some (.map (some (M k)))) (by kernel_rfl) (⟨XB.out, cm⟩) (fun hHeld => ?_)
    have DR := (Below.refl wb.heap.size wb).drew
    have PB2 : Hid (wb.drew.heap[pb]? = _) := PB.out
    have BK2 : Hid (BkRow wb.drew _ _) := ORow.next BKB.out DR
    have BS2 := Lib.hid (BSB.out.next DR)
    have OY2 := Lib.hid (OY.out.trans (Only.of_below DR))
    have XB2 : Hid (Two5 wb.drew N 32 x.1 x.2) := XB.out
    have cm2 : wb.drew.cell? ⟨pb, k * 2 + 1, none⟩ = some (.map (some (M k))) := cm
    clear DR PB BKB BSB OY XB cm
    generalize wb.drew = z5 at *
    refine wpAnyH_take (i := 0) (v := .pointer (some ⟨pb, k * 2, none⟩)) rfl (by kernel_rfl) (by kernel_rfl) (by kernel_rfl) (fun _ _ _ h => h) (Or.inl ⟨by rfl, fun w hSw => by obtain ⟨s1, s2⟩ := hSw; have b0 := two_c0 s1; have b1 := two_c1 s1; go_simp⟩) (by assumption) ?_
    change wpAnyH _ _ _ _ _ _ _ (Act.put _ (some 41) _) _
    simp only [Act.put, List.setIfInBounds_toArray, List.set_cons_zero, List.set_cons_succ]
    refine wpAnyH_take (i := 1) (v := .pointer (some ⟨pb, k * 2, none⟩)) rfl (by kernel_rfl) (by kernel_rfl) (by kernel_rfl) (fun _ _ _ h => h) (Or.inl ⟨by rfl, fun w hSw => by obtain ⟨s1, s2⟩ := hSw; have b0 := two_c0 s1; have b1 := two_c1 s1; go_simp⟩) (by assumption) ?_
    change wpAnyH _ _ _ _ _ _ _ (Act.put _ (some 42) _) _
    simp only [Act.put, List.setIfInBounds_toArray, List.set_cons_zero, List.set_cons_succ]
    refine wpAnyH_take (i := 2) (v := .pointer (some ⟨pb, k * 2 + 1, none⟩)) rfl (by kernel_rfl) (by kernel_rfl) (by kernel_rfl) (fun _ _ _ h => h) (Or.inl ⟨by rfl, fun w hSw => by obtain ⟨s1, s2⟩ := hSw; have b0 := two_c0 s1; have b1 := two_c1 s1; go_simp⟩) (by assumption) ?_
    change wpAnyH _ _ _ _ _ _ _ (Act.put _ (some 43) _) _
    simp only [Act.put, List.setIfInBounds_toArray, List.set_cons_zero, List.set_cons_succ]
    refine wpAnyH_take (i := 3) (v := .map (some (M k))) rfl (by kernel_rfl) (by kernel_rfl) (by kernel_rfl) (fun _ _ _ h => h) (Or.inl ⟨by rfl, fun w hSw => by obtain ⟨s1, s2⟩ := hSw; have b0 := two_c0 s1; have b1 := two_c1 s1; go_simp⟩) (by assumption) ?_
    change wpAnyH _ _ _ _ _ _ _ (Act.put _ (some 44) _) _
    simp only [Act.put, List.setIfInBounds_toArray, List.set_cons_zero, List.set_cons_succ]
    refine wpAnyH_take (i := 4) (v := .agg #[.int .i64 x.1, .int .i64 x.2]) rfl (by kernel_rfl) (by kernel_rfl) (by kernel_rfl) (fun _ _ _ h => h) (Or.inl ⟨by rfl, fun w hSw => by obtain ⟨s1, s2⟩ := hSw; have b0 := two_c0 s1; have b1 := two_c1 s1; go_simp⟩) (by assumption) ?_
    change wpAnyH _ _ _ _ _ _ _ (Act.put _ (some 45) _) _
    simp only [Act.put, List.setIfInBounds_toArray, List.set_cons_zero, List.set_cons_succ]
    refine wpAnyH_ready (rs := [5]) (by kernel_rfl) (by simp) ?_
    refine AllReadyH.cons rfl (fun K hK => ?_) AllReadyH.nil
    obtain ⟨wm, hrunm, m1, m2⟩ := BS2.out.put hx hn
    unfold bkV at hrunm
    have OM : Hid (Only [M k] z5 wm) := Only.of_grown m2 (fun b hb => by simp at hb ⊢; exact hb.symm)
    have BSM := Lib.hid m1
    have XM : Hid (Two5 wm N 32 x.1 x.2) := OM.out.at XB2.out (by
      simp
      intro e
      obtain ⟨es, c, hm2⟩ := BS2.out.obj
      rw [← e] at hm2
      have := hm2.symm.trans XB2.out
      simp at this)
    have PM : Hid (wm.heap[pb]? = _) := OM.out.at PB2.out (by simpa using nMp.symm)
    have cm3 : wm.cell? ⟨pb, k * 2 + 1, none⟩ = some (.map (some (M k))) := by
      have := (piles_at (L := updL L k (.slice (some ⟨bq, 0, none⟩) ((P k).length + 1) cq)) (M := M) hk).2
      rw [cell_of PM.out]
      simpa using this
    go_simp
    refine hK.out _ _ (⟨XM.out, cm3⟩) (fun hHeldM => ?_)
    clear hK K hrunm m1 m2
    refine ⟨by kernel_rfl, ?_⟩
    refine NoPanic.normal ?_
    have BKM : Hid (BkRow wm (.slice (some ⟨bq, 0, none⟩) ((P k).length + 1) cq) (P k ++ [x])) := ORow.stay BK2.out OM.out (fun b hb => by
      obtain ⟨cur, hc⟩ := BK2.out.obj hb
      obtain ⟨es, c, hm2⟩ := BS2.out.obj
      simp
      intro e
      subst e
      have := hc.symm.trans hm2
      simp at this)
    have OF : Hid (Only ([pb, M k] ++ (L k).ownBlock.toList) z1 wm) := OY2.out.trans (OM.out.mono (fun b hb => .inl (by simp at hb ⊢; exact .inr (.inl hb))))
    have KF : Hid (Stk wm sb clb pb W S B T len f (n + 1) (updP P k (P k ++ [x])) (updL L k (.slice (some ⟨bq, 0, none⟩) ((P k).length + 1) cq)) M) := KY.out.turn hk OF.out (fun b hb => by simp at hb; rcases hb with h | h | h; exact .inl h; exact .inr (.inl h); exact .inr (.inr (.inl h))) PM.out BKM.out (BSM.out.congr (fun y => by simp [or_comm])) ⟨by simp; exact few, fun y hy => by rcases List.mem_append.1 hy with h | h; exact (KY.out.bd k hk).2 y h; simp at h; subst h; exact hx⟩ (by omega) (by
      rcases OW.out with h | h
      · exact .inl h
      · exact .inr (.inr ⟨_, h, Nat.le_refl _⟩))
    clear BKM BSM PM OM BK2 BS2 PB2 XB2 XM
    go_wp2_with fail
    go_ret
    refine ⟨rfl, _, KF.out, ?_, ?_⟩
    · have OB : Only ([pb, M k] ++ (L k).ownBlock.toList) w z1 := Only.of_below (by rw [hN]; exact BY.out)
      exact OB.trans OF.out
    · have BYS := BY.out.size
      rcases OW.out with h | h
      · exact .inl h
      · exact .inr ⟨_, h, by omega⟩
end Go.Proofs.YtehmeccjgjhidaaDoor
