/-
  StockClasses: the walk.
-/
import Derived.Test.YtagacljfpakgnaaDoorStockSa
namespace Go.Proofs.YtagacljfpakgnaaDoor
open Go.RowKit Go.Maps Go.Sort
attribute [local go_sem] Oper.semAt_some

/-- Blocks are laid. -/
theorem Pr.stay {w w' : World} {A : Nat → Prop} {sb clb pb qb : Nat} {W S B T : Int} {len : Nat} {f : Nat → Int} {n : Nat} {P R : Nat → List (Int × Int)} {L : Nat → Value} {M : Nat → Nat} {Q : Nat → Value} (h : Pr w A sb clb pb qb W S B T len f n P R L M Q) (x : Below w.heap.size w w') : Pr w' A sb clb pb qb W S B T len f n P R L M Q :=
  ⟨h.st.next x, (x.block _ (heap_lt h.pil)).trans h.pil, fun k hk => ORow.next (h.rows k hk) x, h.good, fun b hb => by have := h.a0 b hb; have := x.size; omega, h.a1, h.a2, h.a3, h.a4, h.ap⟩
theorem updP_at (P : Nat → List (Int × Int)) (k : Nat) (l : List (Int × Int)) : updP P k l k = l := by simp [updP]
theorem updP_ne (P : Nat → List (Int × Int)) {k j : Nat} (l : List (Int × Int)) (h : j ≠ k) : updP P k l j = P j := by simp [updP, h]
set_option maxRecDepth 20000 in
set_option maxHeartbeats 8000000 in
theorem sclasses_walk (W S B T : Int) (ad : Option Addr) (len cap : Nat) (f : Nat → Int) (a1 : Option Addr) (n1 c1 : Nat) (Za Zb Zc Zd Ze : Nat → Int) (cl : Int) (w : World) (hr : Hid (RowI w ad len f)) (hl : len < 9223372036854775808) (hT : Hid (TabAt w)) (hs : Hid (RowSt w a1 n1 Za Zb Zc Zd Ze)) :
    Calls Tryd.prog 7 #[.agg #[.int .i64 W, .int .i64 S, .int .i64 B, .int .i64 T, .slice ad len cap], .slice a1 n1 c1, .int .i64 cl] w fun e w' => e = .returned (.bool true) ∧ Below w.heap.size w w' := by
  have hb := box1 w (.cells #[.int .i64 W, .int .i64 S, .int .i64 B, .int .i64 T, .slice ad len cap] 24)
  have C0 := Lib.hid (cfg_new w W S B T (.slice ad len cap))
  have B0 := Lib.hid hb
  have R0 := Lib.hid (hr.out.next hb)
  have T0 := Lib.hid (hT.out.next hb)
  have Z0 := Lib.hid (hs.out.next hb)
  clear hb
  go_enter Tryd.func7, Tryd.ntmps7
  go_wp2_with fail
  generalize w.alloc (.cells #[.int .i64 W, .int .i64 S, .int .i64 B, .int .i64 T, .slice ad len cap] 24) = w0 at *
  refine (speaks12_any _ T0).mono ?_
  rintro e w1 ⟨rfl, hb⟩
  have E1 := Lib.hid hb
  have C1 := Lib.hid (cfg_next C0.out hb)
  clear hb
  obtain ⟨c0, c1, c2, c3, c4⟩ := cfg_cells C1.out
  go_wp2_with fail
  refine (rmay_any W S B T ad len cap f _ (Lib.hid (R0.out.next E1.out)) hl).mono ?_
  rintro e w2 ⟨rfl, hb⟩
  have E2 := Lib.hid (E1.out.trans (hb.mono E1.out.size))
  have C2 := Lib.hid (cfg_next C1.out hb)
  clear hb c0 c1 c2 c3 c4 C1 E1
  by_cases hm' : mayB W S B T len f = false
  · rw [hm']
    go_wp2_with fail
    go_ret
    exact ⟨rfl, B0.out.trans (E2.out.mono B0.out.size)⟩
  have hm : mayB W S B T len f = true := by simpa using hm'
  rw [hm]
  clear hm'
  by_cases hfew : 100 < (n1 : Int)
  · have h5 : decide (100 < (n1 : Int)) = true := by simpa using hfew
    go_wp2_with fail
    go_ret
    exact ⟨rfl, B0.out.trans (E2.out.mono B0.out.size)⟩
  have h5 : decide (100 < (n1 : Int)) = false := by simpa using hfew
  obtain ⟨⟨wa, wb⟩, ⟨s1, s2⟩, ⟨b1, b2⟩, ⟨t1, t2⟩, ⟨l1, l2⟩, hcls⟩ := may_nums hm
  have OK := Lib.hid (cls_ok hcls)
  clear hcls wa wb t1 t2 hm
  obtain ⟨c0, c1, c2, c3, c4⟩ := cfg_cells C2.out
  go_upto_region 5 with fail
  refine wp_region_noPanic ?_
  refine wp_region_held_drew (S := fun w' => Cfg5 w' w.heap.size W S B T (.slice ad len cap)) (by kernel_rfl) (C2.out) (fun hHeld => ?_)
  have hb := (Below.refl w2.heap.size w2).drew
  have E3 := Lib.hid (E2.out.trans (hb.mono E2.out.size))
  have C3 := Lib.hid (cfg_next C2.out hb)
  clear hb c0 c1 c2 c3 c4
  generalize w2.drew = z0 at *
  refine wpAnyH_take (i := 0) (v := .agg #[.int .i64 W, .int .i64 S, .int .i64 B, .int .i64 T, .slice ad len cap]) rfl (by kernel_rfl) (by kernel_rfl) (by kernel_rfl) (fun _ _ _ h => h) (Or.inl ⟨by rfl, fun w hSw => by obtain ⟨c0, c1, c2, c3, c4⟩ := cfg_cells hSw; go_simp⟩) (by assumption) ?_
  change wpAnyH _ _ _ _ _ _ _ (Act.put _ (some 23) _) _
  simp only [Act.put, List.setIfInBounds_toArray, List.set_cons_zero, List.set_cons_succ]
  refine wpAnyH_take (i := 2) (v := .agg #[.int .i64 W, .int .i64 S, .int .i64 B, .int .i64 T, .slice ad len cap]) rfl (by kernel_rfl) (by kernel_rfl) (by kernel_rfl) (fun _ _ _ h => h) (Or.inl ⟨by rfl, fun w hSw => by obtain ⟨c0, c1, c2, c3, c4⟩ := cfg_cells hSw; go_simp⟩) (by assumption) ?_
  change wpAnyH _ _ _ _ _ _ _ (Act.put _ (some 25) _) _
  simp only [Act.put, List.setIfInBounds_toArray, List.set_cons_zero, List.set_cons_succ]
  refine wpAnyH_ready (rs := [1]) (by kernel_rfl) (by simp) ?_
  refine AllReadyH.cons rfl (fun K hK => ?_) (AllReadyH.nil)
  refine step_enter (F := 10) (vals := #[.agg #[.int .i64 W, .int .i64 S, .int .i64 B, .int .i64 T, .slice ad len cap]]) rfl (by kernel_rfl) ?_
  refine (snew_any W S B T ad len cap f z0 (Lib.hid (R0.out.next E3.out)) (by omega)).mono ?_
  rintro e y1 ⟨sb4, clb4, pb4, M4, rfl, st, p1, p2, p3, p4, hb⟩
  have S4 := Lib.hid st
  have F4 : Hid (z0.heap.size ≤ sb4 ∧ z0.heap.size ≤ clb4 ∧ z0.heap.size ≤ pb4 ∧ ∀ j, j < len → z0.heap.size ≤ M4 j) := Lib.hid ⟨p1, p2, p3, p4⟩
  have Y4 := Lib.hid hb
  have E4 := Lib.hid (E3.out.trans (hb.mono E3.out.size))
  have C4 := Lib.hid (cfg_next C3.out hb)
  clear st p1 p2 p3 p4 hb
  show K (Act.put _ (some 24) _) y1
  refine hK.out _ _ (C4.out) (fun hHeld1 => ?_)
  clear hK K
  simp only [Act.put, List.setIfInBounds_toArray, List.set_cons_zero, List.set_cons_succ]
  refine wpAnyH_ready (rs := [3]) (by kernel_rfl) (by simp) ?_
  refine AllReadyH.cons rfl (fun K hK => ?_) (AllReadyH.nil)
  refine step_enter (F := 10) (vals := #[.agg #[.int .i64 W, .int .i64 S, .int .i64 B, .int .i64 T, .slice ad len cap]]) rfl (by kernel_rfl) ?_
  refine (snew_any W S B T ad len cap f y1 (Lib.hid (R0.out.next E4.out)) (by omega)).mono ?_
  rintro e y2 ⟨sb5, clb5, pb5, M5, rfl, st, p1, p2, p3, p4, hb⟩
  have S5 := Lib.hid st
  have F5 : Hid (y1.heap.size ≤ sb5 ∧ y1.heap.size ≤ clb5 ∧ y1.heap.size ≤ pb5 ∧ ∀ j, j < len → y1.heap.size ≤ M5 j) := Lib.hid ⟨p1, p2, p3, p4⟩
  have Y5 := Lib.hid hb
  have E5 := Lib.hid (E4.out.trans (hb.mono E4.out.size))
  have C5 := Lib.hid (cfg_next C4.out hb)
  have S6 := Lib.hid (S4.out.next hb)
  clear st p1 p2 p3 p4 hb
  show K (Act.put _ (some 26) _) y2
  refine hK.out _ _ (C5.out) (fun hHeld2 => ?_)
  clear hK K
  simp only [Act.put, List.setIfInBounds_toArray, List.set_cons_zero, List.set_cons_succ]
  refine wpAnyH_take (i := 4) (v := .pointer (some ⟨sb4, 0, none⟩)) rfl (by kernel_rfl) (by kernel_rfl) (by kernel_rfl) (fun _ _ _ h => h) (Or.inl ⟨by rfl, fun w hSw => by obtain ⟨c0, c1, c2, c3, c4⟩ := cfg_cells hSw; go_simp⟩) (by assumption) ?_
  change wpAnyH _ _ _ _ _ _ _ (Act.put _ (some 7) _) _
  simp only [Act.put, List.setIfInBounds_toArray, List.set_cons_zero, List.set_cons_succ]
  refine wpAnyH_take (i := 5) (v := .pointer (some ⟨sb5, 0, none⟩)) rfl (by kernel_rfl) (by kernel_rfl) (by kernel_rfl) (fun _ _ _ h => h) (Or.inl ⟨by rfl, fun w hSw => by obtain ⟨c0, c1, c2, c3, c4⟩ := cfg_cells hSw; go_simp⟩) (by assumption) ?_
  change wpAnyH _ _ _ _ _ _ _ (Act.put _ (some 8) _) _
  simp only [Act.put, List.setIfInBounds_toArray, List.set_cons_zero, List.set_cons_succ]
  refine ⟨by kernel_rfl, ?_⟩
  refine NoPanic.normal ?_
  have LT4 : Hid (sb4 < y1.heap.size ∧ clb4 < y1.heap.size ∧ pb4 < y1.heap.size ∧ ∀ j, j < len → M4 j < y1.heap.size) := Lib.hid ⟨heap_lt S4.out.box, heap_lt S4.out.row, heap_lt S4.out.pil, fun j hj => (S4.out.set j hj).lt⟩
  have LT5 : Hid (sb5 < y2.heap.size ∧ clb5 < y2.heap.size ∧ pb5 < y2.heap.size ∧ ∀ j, j < len → M5 j < y2.heap.size) := Lib.hid ⟨heap_lt S5.out.box, heap_lt S5.out.row, heap_lt S5.out.pil, fun j hj => (S5.out.set j hj).lt⟩
  have ZY : Hid (w0.heap.size ≤ z0.heap.size ∧ z0.heap.size ≤ y1.heap.size ∧ y1.heap.size ≤ y2.heap.size) := Lib.hid ⟨E3.out.size, Y4.out.size, Y5.out.size⟩
  clear S4 E3 C3 E4 C4 E2 C2
  obtain ⟨c0, c1, c2, c3, c4⟩ := cfg_cells C5.out
  go_upto_region 6 with fail
  go_cut [9, 10] (fun u9 u10 wx => ∃ qp qq, u9 = .slice (some ⟨qp, 0, none⟩) len len ∧ u10 = .slice (some ⟨qq, 0, none⟩) len len ∧ Hid (qp ≠ qq ∧ y2.heap.size ≤ qp ∧ y2.heap.size ≤ qq ∧ wx.heap[qp]? = some (.cells ((List.range len).map fun _ => (Value.slice none 0 0)).toArray 37 (0, 0)) ∧ wx.heap[qq]? = some (.cells ((List.range len).map fun _ => (Value.slice none 0 0)).toArray 37 (0, 0)) ∧ Below y2.heap.size y2 wx))
  case first =>
    refine wp_region_noPanic ?_
    refine wp_region_held_drew (S := fun w' => Cfg5 w' w.heap.size W S B T (.slice ad len cap)) (by kernel_rfl) (C5.out) (fun hHeld => ?_)
    have hb := (Below.refl y2.heap.size y2).drew
    have E6 := Lib.hid (E5.out.trans (hb.mono E5.out.size))
    have C6 := Lib.hid (cfg_next C5.out hb)
    have BY : Hid (Below y2.heap.size y2 y2.drew) := Lib.hid ((Below.refl y2.heap.size y2).drew)
    clear hb c0 c1 c2 c3 c4
    generalize y2.drew = z1 at *
    refine wpAnyH_take (i := 0) (v := .pointer (some ⟨w.heap.size, 4, none⟩)) rfl (by kernel_rfl) (by kernel_rfl) (by kernel_rfl) (fun _ _ _ h => h) (Or.inl ⟨by rfl, fun w hSw => by obtain ⟨c0, c1, c2, c3, c4⟩ := cfg_cells hSw; go_simp⟩) (by assumption) ?_
    change wpAnyH _ _ _ _ _ _ _ (Act.put _ (some 27) _) _
    simp only [Act.put, List.setIfInBounds_toArray, List.set_cons_zero, List.set_cons_succ]
    refine wpAnyH_take (i := 1) (v := .slice ad len cap) rfl (by kernel_rfl) (by kernel_rfl) (by kernel_rfl) (fun _ _ _ h => h) (Or.inl ⟨by rfl, fun w hSw => by obtain ⟨c0, c1, c2, c3, c4⟩ := cfg_cells hSw; go_simp⟩) (by assumption) ?_
    change wpAnyH _ _ _ _ _ _ _ (Act.put _ (some 28) _) _
    simp only [Act.put, List.setIfInBounds_toArray, List.set_cons_zero, List.set_cons_succ]
    refine wpAnyH_take (i := 2) (v := .int .i64 (len : Nat)) rfl (by kernel_rfl) (by kernel_rfl) (by kernel_rfl) (fun _ _ _ h => h) (Or.inl ⟨by rfl, fun w hSw => by obtain ⟨c0, c1, c2, c3, c4⟩ := cfg_cells hSw; go_simp⟩) (by assumption) ?_
    change wpAnyH _ _ _ _ _ _ _ (Act.put _ (some 29) _) _
    simp only [Act.put, List.setIfInBounds_toArray, List.set_cons_zero, List.set_cons_succ]
    refine wpAnyH_take (i := 4) (v := .pointer (some ⟨w.heap.size, 4, none⟩)) rfl (by kernel_rfl) (by kernel_rfl) (by kernel_rfl) (fun _ _ _ h => h) (Or.inl ⟨by rfl, fun w hSw => by obtain ⟨c0, c1, c2, c3, c4⟩ := cfg_cells hSw; go_simp⟩) (by assumption) ?_
    change wpAnyH _ _ _ _ _ _ _ (Act.put _ (some 31) _) _
    simp only [Act.put, List.setIfInBounds_toArray, List.set_cons_zero, List.set_cons_succ]
    refine wpAnyH_take (i := 5) (v := .slice ad len cap) rfl (by kernel_rfl) (by kernel_rfl) (by kernel_rfl) (fun _ _ _ h => h) (Or.inl ⟨by rfl, fun w hSw => by obtain ⟨c0, c1, c2, c3, c4⟩ := cfg_cells hSw; go_simp⟩) (by assumption) ?_
    change wpAnyH _ _ _ _ _ _ _ (Act.put _ (some 32) _) _
    simp only [Act.put, List.setIfInBounds_toArray, List.set_cons_zero, List.set_cons_succ]
    refine wpAnyH_take (i := 6) (v := .int .i64 (len : Nat)) rfl (by kernel_rfl) (by kernel_rfl) (by kernel_rfl) (fun _ _ _ h => h) (Or.inl ⟨by rfl, fun w hSw => by obtain ⟨c0, c1, c2, c3, c4⟩ := cfg_cells hSw; go_simp⟩) (by assumption) ?_
    change wpAnyH _ _ _ _ _ _ _ (Act.put _ (some 33) _) _
    simp only [Act.put, List.setIfInBounds_toArray, List.set_cons_zero, List.set_cons_succ]
    refine wpAnyH_ready (rs := [3, 7]) (by kernel_rfl) (by simp) ?_
    refine AllReadyH.cons rfl (fun K hK => ?_) (AllReadyH.cons rfl (fun K hK => ?_) (AllReadyH.nil))
    · obtain ⟨i0, hi, hz0, hz1, hz2⟩ := info_parts' infoRow
      have hrun := run_make (P := Tryd.prog) z1 30 37 i0 (.slice none 0 0) Tryd.underlying30 hi hz0 .i64 .i64 (len : Int) (len : Int) (by omega) (by omega) (by rw [hz2]; omega) (by omega)
      rw [Int.toNat_natCast, hz1, Nat.mul_one] at hrun
      refine step_make_bk (v := .slice (some ⟨z1.heap.size, 0, none⟩) len len) (w' := z1.alloc (.cells (madeCells #[.slice none 0 0] len) 37)) rfl rfl rfl rfl hrun ?_
      have hb := box1 z1 (.cells (madeCells #[.slice none 0 0] len) 37)
      have Q7 : Hid ((z1.alloc (.cells (madeCells #[.slice none 0 0] len) 37)).heap[z1.heap.size]? = some (.cells ((List.range len).map fun _ => (Value.slice none 0 0)).toArray 37 (0, 0))) := by
        show _ = _
        rw [heap_new, made_rows]
      have E7 := Lib.hid (E6.out.trans (hb.mono E6.out.size))
      have C7 := Lib.hid (cfg_next C6.out hb)
      have BY7 := Lib.hid (BY.out.trans (hb.mono BY.out.size))
      have YZ7 : Hid (y2.heap.size ≤ z1.heap.size) := Lib.hid BY.out.size
      clear hb hrun hi hz0 hz1 hz2
      show K (Act.put _ (some 30) _) _
      refine hK.out _ _ (C7.out) (fun hHeld3 => ?_)
      clear hK K
      simp only [Act.put, List.setIfInBounds_toArray, List.set_cons_zero, List.set_cons_succ]
      have G7 : Hid (z1.heap.size ≤ z1.heap.size ∧ w0.heap.size ≤ z1.heap.size) := Lib.hid ⟨Nat.le_refl _, E6.out.size⟩
      generalize z1.alloc (.cells (madeCells #[.slice none 0 0] len) 37) = x1 at *
      generalize hq7 : z1.heap.size = qb7 at *
      refine wpAnyH_take (i := 8) (v := .slice (some ⟨qb7, 0, none⟩) len len) rfl (by kernel_rfl) (by kernel_rfl) (by kernel_rfl) (fun _ _ _ h => h) (Or.inl ⟨by rfl, fun w hSw => by obtain ⟨c0, c1, c2, c3, c4⟩ := cfg_cells hSw; go_simp⟩) (by assumption) ?_
      change wpAnyH _ _ _ _ _ _ _ (Act.put _ (some 9) _) _
      simp only [Act.put, List.setIfInBounds_toArray, List.set_cons_zero, List.set_cons_succ]
      refine wpAnyH_ready (rs := [7]) (by kernel_rfl) (by simp) ?_
      refine AllReadyH.cons rfl (fun K hK => ?_) (AllReadyH.nil)
      obtain ⟨i0, hi, hz0, hz1, hz2⟩ := info_parts' infoRow
      have hrun := run_make (P := Tryd.prog) x1 30 37 i0 (.slice none 0 0) Tryd.underlying30 hi hz0 .i64 .i64 (len : Int) (len : Int) (by omega) (by omega) (by rw [hz2]; omega) (by omega)
      rw [Int.toNat_natCast, hz1, Nat.mul_one] at hrun
      refine step_make_bk (v := .slice (some ⟨x1.heap.size, 0, none⟩) len len) (w' := x1.alloc (.cells (madeCells #[.slice none 0 0] len) 37)) rfl rfl rfl rfl hrun ?_
      have hb := box1 x1 (.cells (madeCells #[.slice none 0 0] len) 37)
      have Q8 : Hid ((x1.alloc (.cells (madeCells #[.slice none 0 0] len) 37)).heap[x1.heap.size]? = some (.cells ((List.range len).map fun _ => (Value.slice none 0 0)).toArray 37 (0, 0))) := by
        show _ = _
        rw [heap_new, made_rows]
      have E8 := Lib.hid (E7.out.trans (hb.mono E7.out.size))
      have C8 := Lib.hid (cfg_next C7.out hb)
      have BY8 := Lib.hid (BY7.out.trans (hb.mono BY7.out.size))
      have YZ8 : Hid (y2.heap.size ≤ x1.heap.size) := Lib.hid BY7.out.size
      have Q9 := Lib.hid ((hb.block _ (heap_lt Q7.out)).trans Q7.out)
      have NE : Hid (qb7 ≠ x1.heap.size) := Lib.hid (fun e => by have := heap_lt Q7.out; omega)
      clear hb hrun hi hz0 hz1 hz2
      show K (Act.put _ (some 34) _) _
      refine hK.out _ _ (C8.out) (fun hHeld4 => ?_)
      clear hK K
      simp only [Act.put, List.setIfInBounds_toArray, List.set_cons_zero, List.set_cons_succ]
      have G8 : Hid (x1.heap.size ≤ x1.heap.size ∧ w0.heap.size ≤ x1.heap.size) := Lib.hid ⟨Nat.le_refl _, E7.out.size⟩
      generalize x1.alloc (.cells (madeCells #[.slice none 0 0] len) 37) = x2 at *
      generalize hq8 : x1.heap.size = qb8 at *
      refine wpAnyH_take (i := 9) (v := .slice (some ⟨qb8, 0, none⟩) len len) rfl (by kernel_rfl) (by kernel_rfl) (by kernel_rfl) (fun _ _ _ h => h) (Or.inl ⟨by rfl, fun w hSw => by obtain ⟨c0, c1, c2, c3, c4⟩ := cfg_cells hSw; go_simp⟩) (by assumption) ?_
      change wpAnyH _ _ _ _ _ _ _ (Act.put _ (some 10) _) _
      simp only [Act.put, List.setIfInBounds_toArray, List.set_cons_zero, List.set_cons_succ]
      refine ⟨by kernel_rfl, ?_⟩
      refine NoPanic.normal ?_
      go_wp2_with fail
      go_meet
      case rel => exact ⟨qb7, qb8, rfl, rfl, Lib.hid ⟨NE.out, YZ7.out, YZ8.out, Q9.out, Q8.out, BY8.out⟩⟩
    · obtain ⟨i0, hi, hz0, hz1, hz2⟩ := info_parts' infoRow
      have hrun := run_make (P := Tryd.prog) z1 30 37 i0 (.slice none 0 0) Tryd.underlying30 hi hz0 .i64 .i64 (len : Int) (len : Int) (by omega) (by omega) (by rw [hz2]; omega) (by omega)
      rw [Int.toNat_natCast, hz1, Nat.mul_one] at hrun
      refine step_make_bk (v := .slice (some ⟨z1.heap.size, 0, none⟩) len len) (w' := z1.alloc (.cells (madeCells #[.slice none 0 0] len) 37)) rfl rfl rfl rfl hrun ?_
      have hb := box1 z1 (.cells (madeCells #[.slice none 0 0] len) 37)
      have Q8 : Hid ((z1.alloc (.cells (madeCells #[.slice none 0 0] len) 37)).heap[z1.heap.size]? = some (.cells ((List.range len).map fun _ => (Value.slice none 0 0)).toArray 37 (0, 0))) := by
        show _ = _
        rw [heap_new, made_rows]
      have E8 := Lib.hid (E6.out.trans (hb.mono E6.out.size))
      have C8 := Lib.hid (cfg_next C6.out hb)
      have BY8 := Lib.hid (BY.out.trans (hb.mono BY.out.size))
      have YZ8 : Hid (y2.heap.size ≤ z1.heap.size) := Lib.hid BY.out.size
      clear hb hrun hi hz0 hz1 hz2
      show K (Act.put _ (some 34) _) _
      refine hK.out _ _ (C8.out) (fun hHeld3 => ?_)
      clear hK K
      simp only [Act.put, List.setIfInBounds_toArray, List.set_cons_zero, List.set_cons_succ]
      have G8 : Hid (z1.heap.size ≤ z1.heap.size ∧ w0.heap.size ≤ z1.heap.size) := Lib.hid ⟨Nat.le_refl _, E6.out.size⟩
      generalize z1.alloc (.cells (madeCells #[.slice none 0 0] len) 37) = x1 at *
      generalize hq8 : z1.heap.size = qb8 at *
      refine wpAnyH_ready (rs := [3]) (by kernel_rfl) (by simp) ?_
      refine AllReadyH.cons rfl (fun K hK => ?_) (AllReadyH.nil)
      obtain ⟨i0, hi, hz0, hz1, hz2⟩ := info_parts' infoRow
      have hrun := run_make (P := Tryd.prog) x1 30 37 i0 (.slice none 0 0) Tryd.underlying30 hi hz0 .i64 .i64 (len : Int) (len : Int) (by omega) (by omega) (by rw [hz2]; omega) (by omega)
      rw [Int.toNat_natCast, hz1, Nat.mul_one] at hrun
      refine step_make_bk (v := .slice (some ⟨x1.heap.size, 0, none⟩) len len) (w' := x1.alloc (.cells (madeCells #[.slice none 0 0] len) 37)) rfl rfl rfl rfl hrun ?_
      have hb := box1 x1 (.cells (madeCells #[.slice none 0 0] len) 37)
      have Q7 : Hid ((x1.alloc (.cells (madeCells #[.slice none 0 0] len) 37)).heap[x1.heap.size]? = some (.cells ((List.range len).map fun _ => (Value.slice none 0 0)).toArray 37 (0, 0))) := by
        show _ = _
        rw [heap_new, made_rows]
      have E7 := Lib.hid (E8.out.trans (hb.mono E8.out.size))
      have C7 := Lib.hid (cfg_next C8.out hb)
      have BY7 := Lib.hid (BY8.out.trans (hb.mono BY8.out.size))
      have YZ7 : Hid (y2.heap.size ≤ x1.heap.size) := Lib.hid BY8.out.size
      have Q9 := Lib.hid ((hb.block _ (heap_lt Q8.out)).trans Q8.out)
      have NE : Hid (x1.heap.size ≠ qb8) := Lib.hid (fun e => by have := heap_lt Q8.out; omega)
      clear hb hrun hi hz0 hz1 hz2
      show K (Act.put _ (some 30) _) _
      refine hK.out _ _ (C7.out) (fun hHeld4 => ?_)
      clear hK K
      simp only [Act.put, List.setIfInBounds_toArray, List.set_cons_zero, List.set_cons_succ]
      have G7 : Hid (x1.heap.size ≤ x1.heap.size ∧ w0.heap.size ≤ x1.heap.size) := Lib.hid ⟨Nat.le_refl _, E8.out.size⟩
      generalize x1.alloc (.cells (madeCells #[.slice none 0 0] len) 37) = x2 at *
      generalize hq7 : x1.heap.size = qb7 at *
      refine wpAnyH_take (i := 8) (v := .slice (some ⟨qb7, 0, none⟩) len len) rfl (by kernel_rfl) (by kernel_rfl) (by kernel_rfl) (fun _ _ _ h => h) (Or.inl ⟨by rfl, fun w hSw => by obtain ⟨c0, c1, c2, c3, c4⟩ := cfg_cells hSw; go_simp⟩) (by assumption) ?_
      change wpAnyH _ _ _ _ _ _ _ (Act.put _ (some 9) _) _
      simp only [Act.put, List.setIfInBounds_toArray, List.set_cons_zero, List.set_cons_succ]
      refine wpAnyH_take (i := 9) (v := .slice (some ⟨qb8, 0, none⟩) len len) rfl (by kernel_rfl) (by kernel_rfl) (by kernel_rfl) (fun _ _ _ h => h) (Or.inl ⟨by rfl, fun w hSw => by obtain ⟨c0, c1, c2, c3, c4⟩ := cfg_cells hSw; go_simp⟩) (by assumption) ?_
      change wpAnyH _ _ _ _ _ _ _ (Act.put _ (some 10) _) _
      simp only [Act.put, List.setIfInBounds_toArray, List.set_cons_zero, List.set_cons_succ]
      refine ⟨by kernel_rfl, ?_⟩
      refine NoPanic.normal ?_
      go_wp2_with fail
      go_meet
      case rel => exact ⟨qb7, qb8, rfl, rfl, Lib.hid ⟨NE.out, YZ7.out, YZ8.out, Q7.out, Q9.out, BY7.out⟩⟩
  case rest =>
    obtain ⟨qp, qq, rfl, rfl, QQ⟩ := hcut
    have E9 := Lib.hid (E5.out.trans (QQ.out.2.2.2.2.2.mono E5.out.size))
    have PA : Hid (Pr wc (fun b => (z0.heap.size ≤ b ∧ b < y1.heap.size) ∨ b = qp) sb4 clb4 pb4 qp W S B T len f 0 (fun _ => []) (fun _ => []) (fun _ => .slice none 0 0) M4 (fun _ => .slice none 0 0)) := pr_start (S6.out.next QQ.out.2.2.2.2.2) QQ.out.2.2.2.1 (fun b h => by have := QQ.out.2.2.2.2.2.size; have := ZY.out; have := heap_lt QQ.out.2.2.2.1; omega) ⟨.inl ⟨F4.out.1, LT4.out.1⟩, .inl ⟨F4.out.2.1, LT4.out.2.1⟩, .inl ⟨F4.out.2.2.1, LT4.out.2.2.1⟩, .inr rfl⟩ (fun j hj => .inl ⟨F4.out.2.2.2 j hj, LT4.out.2.2.2 j hj⟩)
    have PB : Hid (Pr wc (fun b => (y1.heap.size ≤ b ∧ b < y2.heap.size) ∨ b = qq) sb5 clb5 pb5 qq W S B T len f 0 (fun _ => []) (fun _ => []) (fun _ => .slice none 0 0) M5 (fun _ => .slice none 0 0)) := pr_start (S5.out.next QQ.out.2.2.2.2.2) QQ.out.2.2.2.2.1 (fun b h => by have := QQ.out.2.2.2.2.2.size; have := ZY.out; have := heap_lt QQ.out.2.2.2.2.1; omega) ⟨.inl ⟨F5.out.1, LT5.out.1⟩, .inl ⟨F5.out.2.1, LT5.out.2.1⟩, .inl ⟨F5.out.2.2.1, LT5.out.2.2.1⟩, .inr rfl⟩ (fun j hj => .inl ⟨F5.out.2.2.2 j hj, LT5.out.2.2.2 j hj⟩)
    clear S5 S6 C5 E5
    go_wp2_with fail
    go_loopw [37] (fun u37 wr => ∃ (j n n' : Nat) (A A' : Nat → Prop) (P R : Nat → List (Int × Int)) (L L' Q Q' : Nat → Value), j ≤ n1 ∧ u37 = .int .i64 (j : Nat) ∧ n ≤ 64 * j ∧ n' ≤ 64 * j ∧ Hid (Pr wr A sb4 clb4 pb4 qp W S B T len f n P P L M4 Q) ∧ Hid (Pr wr A' sb5 clb5 pb5 qq W S B T len f n' R R L' M5 Q') ∧ Hid ((∀ b, A b → w0.heap.size ≤ b) ∧ (∀ b, A' b → w0.heap.size ≤ b) ∧ ∀ b, A b → ¬ A' b) ∧ Hid (∀ k : Nat, (k : Int) = cl → P k = R k) ∧ Hid (Below w0.heap.size w0 wr)) (fun u37 _ => n1 - (intOf u37).toNat)
    case atStart => exact ⟨0, 0, 0, _, _, _, _, _, _, _, _, by omega, rfl, by omega, by omega, PA, PB, Lib.hid ⟨fun b h => by have := ZY.out; have := QQ.out; omega, fun b h => by have := ZY.out; have := QQ.out; omega, fun b h h2 => by have := ZY.out; have := QQ.out; omega⟩, Lib.hid (fun _ _ => rfl), E9⟩
    case round =>
      obtain ⟨j, n, n', A, A', P, R, L, L', Q, Q', hj, rfl, hn, hn', PR, PS, AN, PE, E1⟩ := hrel
      by_cases hlt : j < n1
      · have l3 : (j : Int) < (n1 : Int) := by omega
        have Zr := Lib.hid (Z0.out.next E1.out)
        obtain ⟨ab, off, rfl, hab, q0, q1, q2, q3, q4⟩ := Zr.out.at hlt
        obtain ⟨w1', w2', w3', w4', w5'⟩ := Zr.out.1.2 j hlt
        clear Zr
        generalize Za j = ka at *
        generalize Zb j = kb at *
        generalize Zc j = kc at *
        generalize Zd j = kd at *
        generalize Ze j = ke at *
        have be := bounds_u64 w5'
        obtain ⟨m, rfl⟩ := Int.eq_ofNat_of_zero_le be.1
        have hm : m < 18446744073709551616 := by omega
        clear w1' w2' w5' be
        have hb := box1 wr (.cells #[.int .i64 ka, .int .i64 kb, .int .i64 kc, .int .i64 kd, .int .u64 (m : Nat)] 35)
        have PR2 := Lib.hid (PR.out.stay hb)
        have PS2 := Lib.hid (PS.out.stay hb)
        have E2 := Lib.hid (E1.out.trans (hb.mono E1.out.size))
        have NA : Hid (¬ A wr.heap.size ∧ ¬ A' wr.heap.size) := Lib.hid ⟨fun h => by have := PR.out.a0 _ h; omega, fun h => by have := PS.out.a0 _ h; omega⟩
        have BX : Hid (((wr.alloc (.cells #[.int .i64 ka, .int .i64 kb, .int .i64 kc, .int .i64 kd, .int .u64 (m : Nat)] 35))).heap[wr.heap.size]? = some (.cells #[.int .i64 ka, .int .i64 kb, .int .i64 kc, .int .i64 kd, .int .u64 (m : Nat)] 35 (0, 0))) := heap_new wr _
        have C2 : Hid (Cfg5 _ w.heap.size W S B T (.slice ad len cap)) := (E2.out.block _ (cfg_lt C0.out)).trans C0.out
        clear hb PR PS
        have HS : Hid (∀ y, Kp A (wr.alloc (.cells #[.int .i64 ka, .int .i64 kb, .int .i64 kc, .int .i64 kd, .int .u64 (m : Nat)] 35)).heap.size (wr.alloc (.cells #[.int .i64 ka, .int .i64 kb, .int .i64 kc, .int .i64 kd, .int .u64 (m : Nat)] 35)) y → TabAt y ∧ RowI y ad len f) := Lib.hid (fun y h => by
          have h2 := E2.out.trans (h.below AN.out.1 E2.out.size)
          exact ⟨T0.out.next h2, R0.out.next h2⟩)
        obtain ⟨c0, c1, c2, c3, c4⟩ := cfg_cells C2.out
        by_cases hk : 0 ≤ kb ∧ kb < (len : Int)
        · obtain ⟨k, rfl⟩ := Int.eq_ofNat_of_zero_le hk.1
          have DO := Lib.hid (do_in W S B T ad len cap f sb4 clb4 pb4 qp n P L M4 Q A k ka kc kd m _ PR2 HS OK (by omega) (by omega) (by omega) (by omega) ⟨w3', w4'⟩ hm (by omega) (by omega))
          go_wp2_with fail
          refine DO.out.mono ?_
          rintro e w5 ⟨rfl, n5, L5, Q5, hn5, pr, kp⟩
          have E5 := Lib.hid (E2.out.trans (kp.below AN.out.1 E2.out.size))
          have PS5 := Lib.hid (PS2.out.apart kp (fun b h h2 => AN.out.2.2 b h2 h))
          have BX5 := Lib.hid ((kp.block _ (heap_lt BX.out) NA.out.1).trans BX.out)
          obtain ⟨A5, P5, HP5, PR5, AN5⟩ : ∃ (A5 : Nat → Prop) (P5 : Nat → List (Int × Int)), Hid (P5 = updP P k (doL S B len f k ka kc kd m (P k))) ∧ Hid (Pr w5 A5 sb4 clb4 pb4 qp W S B T len f n5 P5 P5 L5 M4 Q5) ∧ Hid ((∀ b, A5 b → w0.heap.size ≤ b) ∧ (∀ b, A' b → w0.heap.size ≤ b) ∧ ∀ b, A5 b → ¬ A' b) := ⟨_, _, Lib.hid rfl, Lib.hid pr, Lib.hid ⟨fun b h => by rcases h with h | h; exact AN.out.1 b h; have := E2.out.size; omega, AN.out.2.1, fun b h h2 => by rcases h with h | h; exact AN.out.2.2 b h h2; have := PS2.out.a0 b h2; omega⟩⟩
          clear pr kp DO HS PR2 PS2 c0 c1 c2 c3 c4 q0 q1 q2 q3 q4 C2
          have C5 : Hid (Cfg5 w5 w.heap.size W S B T (.slice ad len cap)) := (E5.out.block _ (cfg_lt C0.out)).trans C0.out
          obtain ⟨c0, c1, c2, c3, c4⟩ := cfg_cells C5.out
          have bx0 : w5.cell? ⟨wr.heap.size, 0, none⟩ = some (.int .i64 ka) := by rw [cell_of BX5.out]; rfl
          have bx1 : w5.cell? ⟨wr.heap.size, 1, none⟩ = some (.int .i64 (k : Int)) := by rw [cell_of BX5.out]; rfl
          have bx2 : w5.cell? ⟨wr.heap.size, 2, none⟩ = some (.int .i64 kc) := by rw [cell_of BX5.out]; rfl
          have bx3 : w5.cell? ⟨wr.heap.size, 3, none⟩ = some (.int .i64 kd) := by rw [cell_of BX5.out]; rfl
          have bx4 : w5.cell? ⟨wr.heap.size, 4, none⟩ = some (.int .u64 (m : Nat)) := by rw [cell_of BX5.out]; rfl
          by_cases hc : (k : Int) = cl
          · have gc : ((k : Int) == cl) = true := by simpa using hc
            have HC := Lib.hid hc
            clear hc
            have HS2 : Hid (∀ y, Kp A' w5.heap.size w5 y → TabAt y ∧ RowI y ad len f) := Lib.hid (fun y h => by
              have h2 := E5.out.trans (h.below AN.out.2.1 E5.out.size)
              exact ⟨T0.out.next h2, R0.out.next h2⟩)
            have DO2 := Lib.hid (do_in W S B T ad len cap f sb5 clb5 pb5 qq n' R L' M5 Q' A' k ka kc kd m w5 PS5 HS2 OK (by omega) (by omega) (by omega) (by omega) ⟨w3', w4'⟩ hm (by omega) (by omega))
            go_wp2_with fail
            refine DO2.out.mono ?_
            rintro e w6 ⟨rfl, n6, L6, Q6, hn6, ps, kp⟩
            have PR6 := Lib.hid (PR5.out.apart kp AN5.out.2.2)
            have E6 := Lib.hid (E5.out.trans (kp.below AN.out.2.1 E5.out.size))
            have AN6 : Hid ((∀ b, A5 b → w0.heap.size ≤ b) ∧ (∀ b, ext A' w5.heap.size w6 b → w0.heap.size ≤ b) ∧ ∀ b, A5 b → ¬ ext A' w5.heap.size w6 b) := Lib.hid ⟨AN5.out.1, fun b h => by rcases h with h | h; exact AN.out.2.1 b h; have := E5.out.size; omega, fun b h h2 => by rcases h2 with h2 | h2; exact AN5.out.2.2 b h h2; have := PR5.out.a0 b h; omega⟩
            have PE6 : Hid (∀ i : Nat, (i : Int) = cl → P5 i = updP R k (doL S B len f k ka kc kd m (R k)) i) := Lib.hid (fun i hi => by
              have e : i = k := by have := HC.out; omega
              subst e
              rw [HP5.out, updP_at, updP_at, PE.out i hi])
            have PS6 := Lib.hid ps
            clear ps kp DO2 HS2
            go_wp2_with fail
            go_roundw
            case rel => exact ⟨j + 1, n5, n6, _, _, _, _, _, _, _, _, by omega, by push_cast; rfl, by omega, by omega, PR6, PS6, AN6, PE6, E6⟩
            case measure => simp [intOf]; omega
          · have gc : ((k : Int) == cl) = false := by simpa using hc
            have PE5 : Hid (∀ i : Nat, (i : Int) = cl → P5 i = R i) := Lib.hid (fun i hi => by rw [HP5.out, updP_ne _ _ (fun e => hc (by rw [← e]; exact hi)), PE.out i hi])
            go_wp2_with fail
            go_roundw
            case rel => exact ⟨j + 1, n5, n', _, _, _, _, _, _, _, _, by omega, by push_cast; rfl, by omega, by omega, PR5, PS5, AN5, PE5, E5⟩
            case measure => simp [intOf]; omega
        · have DO := Lib.hid (do_out W S B T ad len cap f sb4 clb4 pb4 qp n P L M4 Q A kb ka kc kd m _ PR2 HS OK (by omega) (by omega) (by omega) (by omega) hm (by omega))
          go_wp2_with fail
          refine DO.out.mono ?_
          rintro e w5 ⟨rfl, hb⟩
          have E5 := Lib.hid (E2.out.trans (hb.mono E2.out.size))
          have PS5 := Lib.hid (PS2.out.stay hb)
          have BX5 := Lib.hid ((hb.block _ (heap_lt BX.out)).trans BX.out)
          obtain ⟨A5, P5, n5, hn5, HP5, PR5, AN5⟩ : ∃ (A5 : Nat → Prop) (P5 : Nat → List (Int × Int)) (n5 : Nat), n5 ≤ n ∧ Hid (P5 = P) ∧ Hid (Pr w5 A5 sb4 clb4 pb4 qp W S B T len f n5 P5 P5 L M4 Q) ∧ Hid ((∀ b, A5 b → w0.heap.size ≤ b) ∧ (∀ b, A' b → w0.heap.size ≤ b) ∧ ∀ b, A5 b → ¬ A' b) := ⟨_, _, n, Nat.le_refl _, Lib.hid rfl, Lib.hid (PR2.out.stay hb), AN⟩
          have PE5 : Hid (∀ i : Nat, (i : Int) = cl → P5 i = R i) := Lib.hid (by rw [HP5.out]; exact PE.out)
          clear hb DO HS PR2 PS2 c0 c1 c2 c3 c4 q0 q1 q2 q3 q4 C2
          have C5 : Hid (Cfg5 w5 w.heap.size W S B T (.slice ad len cap)) := (E5.out.block _ (cfg_lt C0.out)).trans C0.out
          obtain ⟨c0, c1, c2, c3, c4⟩ := cfg_cells C5.out
          have bx0 : w5.cell? ⟨wr.heap.size, 0, none⟩ = some (.int .i64 ka) := by rw [cell_of BX5.out]; rfl
          have bx1 : w5.cell? ⟨wr.heap.size, 1, none⟩ = some (.int .i64 kb) := by rw [cell_of BX5.out]; rfl
          have bx2 : w5.cell? ⟨wr.heap.size, 2, none⟩ = some (.int .i64 kc) := by rw [cell_of BX5.out]; rfl
          have bx3 : w5.cell? ⟨wr.heap.size, 3, none⟩ = some (.int .i64 kd) := by rw [cell_of BX5.out]; rfl
          have bx4 : w5.cell? ⟨wr.heap.size, 4, none⟩ = some (.int .u64 (m : Nat)) := by rw [cell_of BX5.out]; rfl
          by_cases hc : kb = cl
          · have gc : (kb == cl) = true := by simpa using hc
            have HC := Lib.hid hc
            clear hc
            have HS2 : Hid (∀ y, Kp A' w5.heap.size w5 y → TabAt y ∧ RowI y ad len f) := Lib.hid (fun y h => by
              have h2 := E5.out.trans (h.below AN.out.2.1 E5.out.size)
              exact ⟨T0.out.next h2, R0.out.next h2⟩)
            have DO2 := Lib.hid (do_out W S B T ad len cap f sb5 clb5 pb5 qq n' R L' M5 Q' A' kb ka kc kd m w5 PS5 HS2 OK (by omega) (by omega) (by omega) (by omega) hm (by omega))
            go_wp2_with fail
            refine DO2.out.mono ?_
            rintro e w6 ⟨rfl, hb⟩
            have PR6 := Lib.hid (PR5.out.stay hb)
            have PS6 := Lib.hid (PS5.out.stay hb)
            have E6 := Lib.hid (E5.out.trans (hb.mono E5.out.size))
            clear hb DO2 HS2
            go_wp2_with fail
            go_roundw
            case rel => exact ⟨j + 1, n5, n', _, _, _, _, _, _, _, _, by omega, by push_cast; rfl, by omega, by omega, PR6, PS6, AN5, PE5, E6⟩
            case measure => simp [intOf]; omega
          · have gc : (kb == cl) = false := by simpa using hc
            go_wp2_with fail
            go_roundw
            case rel => exact ⟨j + 1, n5, n', _, _, _, _, _, _, _, _, by omega, by push_cast; rfl, by omega, by omega, PR5, PS5, AN5, PE5, E5⟩
            case measure => simp [intOf]; omega
      · obtain rfl : j = n1 := by omega
        by_cases hk : 0 ≤ cl ∧ cl < (len : Int)
        · obtain ⟨k, rfl⟩ := Int.eq_ofNat_of_zero_le hk.1
          have kl : k < len := by omega
          have few := (PR.out.st.bd k kl).1
          have EQ := Lib.hid (PE.out k rfl)
          clear PE
          have BA := Lib.hid (blocks_in sb4 clb4 pb4 W S B T len f n P L M4 k wr (Lib.hid PR.out.st) kl (by omega))
          go_wp2_with fail
          refine BA.out.mono ?_
          rintro e w5 ⟨v1, rfl, r1, hb, _⟩
          obtain ⟨va, vc, rfl⟩ := ORow.form r1
          have PR5 := Lib.hid (PR.out.stay hb)
          have PS5 := Lib.hid (PS.out.stay hb)
          have E5 := Lib.hid (E1.out.trans (hb.mono E1.out.size))
          have V1 := Lib.hid r1
          clear r1 hb BA
          have BB := Lib.hid (blocks_in sb5 clb5 pb5 W S B T len f n' R L' M5 k w5 (Lib.hid PS5.out.st) kl (by omega))
          go_wp2_with fail
          refine BB.out.mono ?_
          rintro e w6 ⟨v2, rfl, r1, hb, _⟩
          obtain ⟨ua, uc, rfl⟩ := ORow.form r1
          have PR6 := Lib.hid (PR5.out.stay hb)
          have PS6 := Lib.hid (PS5.out.stay hb)
          have E6 := Lib.hid (E5.out.trans (hb.mono E5.out.size))
          have V3 := Lib.hid (ORow.next V1.out hb)
          have V2 : Hid (BkRow w6 (.slice ua (R k).length uc) (P k)) := Lib.hid (by rw [EQ.out]; exact r1)
          clear r1 hb BB
          have SA := Lib.hid (same12_any _ _ _ w6 V3 V2 (by omega))
          go_wp2_with fail
          refine SA.out.mono ?_
          rintro e w7 ⟨rfl, hb⟩
          have PR7 := Lib.hid (PR6.out.stay hb)
          have PS7 := Lib.hid (PS6.out.stay hb)
          have E7 := Lib.hid (E6.out.trans (hb.mono E6.out.size))
          clear hb SA
          go_wp2_with fail
          refine (len_in sb4 clb4 pb4 W S B T len f n P L M4 k w7 (Lib.hid PR7.out.st) kl).mono ?_
          rintro e w8 ⟨rfl, rfl⟩
          go_wp2_with fail
          refine (len_in sb5 clb5 pb5 W S B T len f n' R L' M5 k w7 (Lib.hid PS7.out.st) kl).mono ?_
          rintro e w8 ⟨rfl, rfl⟩
          have gl : ((((P k).length : Nat) : Int) == (((R k).length : Nat) : Int)) = true := by rw [EQ.out]; simp
          go_wp2_with fail
          go_ret
          exact ⟨rfl, B0.out.trans (E7.out.mono B0.out.size)⟩
        · have BA := Lib.hid (blocks_out sb4 clb4 pb4 W S B T len f n P L M4 cl wr (Lib.hid PR.out.st) (by omega))
          go_wp2_with fail
          refine BA.out.mono ?_
          rintro e w5 ⟨v1, rfl, r1, hb⟩
          obtain ⟨va, vc, rfl⟩ := ORow.form r1
          have PR5 := Lib.hid (PR.out.stay hb)
          have PS5 := Lib.hid (PS.out.stay hb)
          have E5 := Lib.hid (E1.out.trans (hb.mono E1.out.size))
          have V1 := Lib.hid r1
          clear r1 hb BA
          have BB := Lib.hid (blocks_out sb5 clb5 pb5 W S B T len f n' R L' M5 cl w5 (Lib.hid PS5.out.st) (by omega))
          go_wp2_with fail
          refine BB.out.mono ?_
          rintro e w6 ⟨v2, rfl, r1, hb⟩
          obtain ⟨ua, uc, rfl⟩ := ORow.form r1
          have PR6 := Lib.hid (PR5.out.stay hb)
          have PS6 := Lib.hid (PS5.out.stay hb)
          have E6 := Lib.hid (E5.out.trans (hb.mono E5.out.size))
          have V3 := Lib.hid (ORow.next V1.out hb)
          have V2 := Lib.hid r1
          clear r1 hb BB
          have SA := Lib.hid (same12_any _ _ _ w6 V3 V2 (by simp))
          go_wp2_with fail
          refine SA.out.mono ?_
          rintro e w7 ⟨rfl, hb⟩
          have PR7 := Lib.hid (PR6.out.stay hb)
          have PS7 := Lib.hid (PS6.out.stay hb)
          have E7 := Lib.hid (E6.out.trans (hb.mono E6.out.size))
          clear hb SA
          go_wp2_with fail
          refine (len_out sb4 clb4 pb4 W S B T len f n P L M4 cl w7 (Lib.hid PR7.out.st) (by omega)).mono ?_
          rintro e w8 ⟨rfl, hb⟩
          have PS8 := Lib.hid (PS7.out.stay hb)
          have E8 := Lib.hid (E7.out.trans (hb.mono E7.out.size))
          clear hb
          go_wp2_with fail
          refine (len_out sb5 clb5 pb5 W S B T len f n' R L' M5 cl w8 (Lib.hid PS8.out.st) (by omega)).mono ?_
          rintro e w9 ⟨rfl, hb⟩
          have E9' := Lib.hid (E8.out.trans (hb.mono E8.out.size))
          clear hb
          go_wp2_with fail
          go_ret
          exact ⟨rfl, B0.out.trans (E9'.out.mono B0.out.size)⟩
end Go.Proofs.YtagacljfpakgnaaDoor
