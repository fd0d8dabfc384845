/-
  StockDoes: the walk.
-/
import Derived.Test.YtagacljfpakgnaaDoorStockSa
namespace Go.Proofs.YtagacljfpakgnaaDoor
open Go.RowKit Go.Maps Go.Sort
attribute [local go_sem] Oper.semAt_some

set_option maxRecDepth 20000 in
set_option maxHeartbeats 8000000 in
theorem sdoes_walk (W S B T : Int) (ad : Option Addr) (len cap : Nat) (f : Nat → Int) (a1 : Option Addr) (n1 c1 : Nat) (Za Zb Zc Zd Ze : Nat → Int) (w : World) (hr : Hid (RowI w ad len f)) (hl : len < 9223372036854775808) (hT : Hid (TabAt w)) (hs : Hid (RowSt w a1 n1 Za Zb Zc Zd Ze)) :
    Calls Tryd.prog 3 #[.agg #[.int .i64 W, .int .i64 S, .int .i64 B, .int .i64 T, .slice ad len cap], .slice a1 n1 c1] w fun e w' => e = .returned (.bool true) ∧ Below w.heap.size w w' := by
  have hb := box1 w (.cells #[.int .i64 W, .int .i64 S, .int .i64 B, .int .i64 T, .slice ad len cap] 24)
  have C0 := Lib.hid (cfg_new w W S B T (.slice ad len cap))
  have B0 := Lib.hid hb
  have R0 := Lib.hid (hr.out.next hb)
  have T0 := Lib.hid (hT.out.next hb)
  have Z0 := Lib.hid (hs.out.next hb)
  clear hb
  go_enter Tryd.func3, Tryd.ntmps3
  go_wp2_with fail
  generalize w.alloc (.cells #[.int .i64 W, .int .i64 S, .int .i64 B, .int .i64 T, .slice ad len cap] 24) = w0 at *
  refine (speaks12_any _ T0).mono ?_
  rintro e w1 ⟨rfl, hb⟩
  have E1 := Lib.hid hb
  have C1 := Lib.hid (cfg_next C0.out hb)
  clear hb
  obtain ⟨c0, c1, c2, c3, c4⟩ := cfg_cells C1.out
  go_wp2_with fail
  refine (rmay_any W S B T ad len cap f _ (Lib.hid (R0.out.next E1.out)) hl).mono ?_
  rintro e w2 ⟨rfl, hb⟩
  have E2 := Lib.hid (E1.out.trans (hb.mono E1.out.size))
  have C2 := Lib.hid (cfg_next C1.out hb)
  clear hb c0 c1 c2 c3 c4 C1 E1
  by_cases hm' : mayB W S B T len f = false
  · rw [hm']
    go_wp2_with fail
    go_ret
    exact ⟨rfl, B0.out.trans (E2.out.mono B0.out.size)⟩
  have hm : mayB W S B T len f = true := by simpa using hm'
  rw [hm]
  clear hm'
  by_cases hfew : 100 < (n1 : Int)
  · have h5 : decide (100 < (n1 : Int)) = true := by simpa using hfew
    go_wp2_with fail
    go_ret
    exact ⟨rfl, B0.out.trans (E2.out.mono B0.out.size)⟩
  have h5 : decide (100 < (n1 : Int)) = false := by simpa using hfew
  obtain ⟨⟨wa, wb⟩, ⟨s1, s2⟩, ⟨b1, b2⟩, ⟨t1, t2⟩, ⟨l1, l2⟩, hcls⟩ := may_nums hm
  have OK := Lib.hid (cls_ok hcls)
  clear hcls wa wb t1 t2 hm
  obtain ⟨c0, c1, c2, c3, c4⟩ := cfg_cells C2.out
  go_upto_region 5 with fail
  go_cut [5, 6] (fun u5 u6 wx => ∃ sb clb pb qb M, u5 = .pointer (some ⟨sb, 0, none⟩) ∧ u6 = .slice (some ⟨qb, 0, none⟩) len len ∧ Hid (Pr wx (fun b => w0.heap.size ≤ b ∧ b < wx.heap.size) sb clb pb qb W S B T len f 0 (fun _ => []) (fun _ => []) (fun _ => .slice none 0 0) M (fun _ => .slice none 0 0)) ∧ Hid (Below w0.heap.size w0 wx) ∧ Hid (Cfg5 wx w.heap.size W S B T (.slice ad len cap)))
  case first =>
    refine wp_region_noPanic ?_
    refine wp_region_held_drew (S := fun w' => Cfg5 w' w.heap.size W S B T (.slice ad len cap)) (by kernel_rfl) (C2.out) (fun hHeld => ?_)
    have hb := (Below.refl w2.heap.size w2).drew
    have E3 := Lib.hid (E2.out.trans (hb.mono E2.out.size))
    have C3 := Lib.hid (cfg_next C2.out hb)
    clear hb c0 c1 c2 c3 c4
    generalize w2.drew = z0 at *
    refine wpAnyH_take (i := 0) (v := .agg #[.int .i64 W, .int .i64 S, .int .i64 B, .int .i64 T, .slice ad len cap]) rfl (by kernel_rfl) (by kernel_rfl) (by kernel_rfl) (fun _ _ _ h => h) (Or.inl ⟨by rfl, fun w hSw => by obtain ⟨c0, c1, c2, c3, c4⟩ := cfg_cells hSw; go_simp⟩) (by assumption) ?_
    change wpAnyH _ _ _ _ _ _ _ (Act.put _ (some 21) _) _
    simp only [Act.put, List.setIfInBounds_toArray, List.set_cons_zero, List.set_cons_succ]
    refine wpAnyH_take (i := 2) (v := .pointer (some ⟨w.heap.size, 4, none⟩)) rfl (by kernel_rfl) (by kernel_rfl) (by kernel_rfl) (fun _ _ _ h => h) (Or.inl ⟨by rfl, fun w hSw => by obtain ⟨c0, c1, c2, c3, c4⟩ := cfg_cells hSw; go_simp⟩) (by assumption) ?_
    change wpAnyH _ _ _ _ _ _ _ (Act.put _ (some 23) _) _
    simp only [Act.put, List.setIfInBounds_toArray, List.set_cons_zero, List.set_cons_succ]
    refine wpAnyH_take (i := 3) (v := .slice ad len cap) rfl (by kernel_rfl) (by kernel_rfl) (by kernel_rfl) (fun _ _ _ h => h) (Or.inl ⟨by rfl, fun w hSw => by obtain ⟨c0, c1, c2, c3, c4⟩ := cfg_cells hSw; go_simp⟩) (by assumption) ?_
    change wpAnyH _ _ _ _ _ _ _ (Act.put _ (some 24) _) _
    simp only [Act.put, List.setIfInBounds_toArray, List.set_cons_zero, List.set_cons_succ]
    refine wpAnyH_take (i := 4) (v := .int .i64 (len : Nat)) rfl (by kernel_rfl) (by kernel_rfl) (by kernel_rfl) (fun _ _ _ h => h) (Or.inl ⟨by rfl, fun w hSw => by obtain ⟨c0, c1, c2, c3, c4⟩ := cfg_cells hSw; go_simp⟩) (by assumption) ?_
    change wpAnyH _ _ _ _ _ _ _ (Act.put _ (some 25) _) _
    simp only [Act.put, List.setIfInBounds_toArray, List.set_cons_zero, List.set_cons_succ]
    refine wpAnyH_ready (rs := [1, 5]) (by kernel_rfl) (by simp) ?_
    refine AllReadyH.cons rfl (fun K hK => ?_) (AllReadyH.cons rfl (fun K hK => ?_) (AllReadyH.nil))
    · refine step_enter (F := 10) (vals := #[.agg #[.int .i64 W, .int .i64 S, .int .i64 B, .int .i64 T, .slice ad len cap]]) rfl (by kernel_rfl) ?_
      refine (snew_any W S B T ad len cap f z0 (Lib.hid (R0.out.next E3.out)) (by omega)).mono ?_
      rintro e y1 ⟨sb4, clb4, pb4, M4, rfl, st, p1, p2, p3, p4, hb⟩
      have S4 := Lib.hid st
      have F4 : Hid (z0.heap.size ≤ sb4 ∧ z0.heap.size ≤ clb4 ∧ z0.heap.size ≤ pb4 ∧ ∀ j, j < len → z0.heap.size ≤ M4 j) := Lib.hid ⟨p1, p2, p3, p4⟩
      have Y4 := Lib.hid hb
      have E4 := Lib.hid (E3.out.trans (hb.mono E3.out.size))
      have C4 := Lib.hid (cfg_next C3.out hb)
      clear st p1 p2 p3 p4 hb
      show K (Act.put _ (some 22) _) y1
      refine hK.out _ _ (C4.out) (fun hHeld1 => ?_)
      clear hK K
      simp only [Act.put, List.setIfInBounds_toArray, List.set_cons_zero, List.set_cons_succ]
      refine wpAnyH_take (i := 6) (v := .pointer (some ⟨sb4, 0, none⟩)) rfl (by kernel_rfl) (by kernel_rfl) (by kernel_rfl) (fun _ _ _ h => h) (Or.inl ⟨by rfl, fun w hSw => by obtain ⟨c0, c1, c2, c3, c4⟩ := cfg_cells hSw; go_simp⟩) (by assumption) ?_
      change wpAnyH _ _ _ _ _ _ _ (Act.put _ (some 5) _) _
      simp only [Act.put, List.setIfInBounds_toArray, List.set_cons_zero, List.set_cons_succ]
      refine wpAnyH_ready (rs := [5]) (by kernel_rfl) (by simp) ?_
      refine AllReadyH.cons rfl (fun K hK => ?_) (AllReadyH.nil)
      obtain ⟨i0, hi, hz0, hz1, hz2⟩ := info_parts' infoRow
      have hrun := run_make (P := Tryd.prog) y1 30 37 i0 (.slice none 0 0) Tryd.underlying30 hi hz0 .i64 .i64 (len : Int) (len : Int) (by omega) (by omega) (by rw [hz2]; omega) (by omega)
      rw [Int.toNat_natCast, hz1, Nat.mul_one] at hrun
      refine step_make_bk (v := .slice (some ⟨y1.heap.size, 0, none⟩) len len) (w' := y1.alloc (.cells (madeCells #[.slice none 0 0] len) 37)) rfl rfl rfl rfl hrun ?_
      have hb := box1 y1 (.cells (madeCells #[.slice none 0 0] len) 37)
      have Q5 : Hid ((y1.alloc (.cells (madeCells #[.slice none 0 0] len) 37)).heap[y1.heap.size]? = some (.cells ((List.range len).map fun _ => (Value.slice none 0 0)).toArray 37 (0, 0))) := by
        show _ = _
        rw [heap_new, made_rows]
      have E5 := Lib.hid (E4.out.trans (hb.mono E4.out.size))
      have C5 := Lib.hid (cfg_next C4.out hb)
      have S5 := Lib.hid (S4.out.next hb)
      clear hb hrun hi hz0 hz1 hz2
      show K (Act.put _ (some 26) _) _
      refine hK.out _ _ (C5.out) (fun hHeld2 => ?_)
      clear hK K
      simp only [Act.put, List.setIfInBounds_toArray, List.set_cons_zero, List.set_cons_succ]
      have G5 : Hid (y1.heap.size ≤ y1.heap.size ∧ w0.heap.size ≤ y1.heap.size) := Lib.hid ⟨Nat.le_refl _, E4.out.size⟩
      generalize y1.alloc (.cells (madeCells #[.slice none 0 0] len) 37) = y2 at *
      generalize hq5 : y1.heap.size = qb5 at *
      refine wpAnyH_take (i := 7) (v := .slice (some ⟨qb5, 0, none⟩) len len) rfl (by kernel_rfl) (by kernel_rfl) (by kernel_rfl) (fun _ _ _ h => h) (Or.inl ⟨by rfl, fun w hSw => by obtain ⟨c0, c1, c2, c3, c4⟩ := cfg_cells hSw; go_simp⟩) (by assumption) ?_
      change wpAnyH _ _ _ _ _ _ _ (Act.put _ (some 6) _) _
      simp only [Act.put, List.setIfInBounds_toArray, List.set_cons_zero, List.set_cons_succ]
      refine ⟨by kernel_rfl, ?_⟩
      refine NoPanic.normal ?_
      have PRS : Hid (Pr y2 (fun b => w0.heap.size ≤ b ∧ b < y2.heap.size) sb4 clb4 pb4 qb5 W S B T len f 0 (fun _ => []) (fun _ => []) (fun _ => .slice none 0 0) M4 (fun _ => .slice none 0 0)) := pr_start S5.out Q5.out (fun _ h => h.2) ⟨⟨by have := F4.out; have := E3.out.size; omega, heap_lt S5.out.box⟩, ⟨by have := F4.out; have := E3.out.size; omega, heap_lt S5.out.row⟩, ⟨by have := F4.out; have := E3.out.size; omega, heap_lt S5.out.pil⟩, ⟨G5.out.2, heap_lt Q5.out⟩⟩ (fun j hj => ⟨by have := F4.out.2.2.2 j hj; have := E3.out.size; omega, (S5.out.set j hj).lt⟩)
      go_wp2_with fail
      go_meet
      case rel => exact ⟨sb4, clb4, pb4, qb5, M4, rfl, rfl, PRS, E5, C5⟩
    · obtain ⟨i0, hi, hz0, hz1, hz2⟩ := info_parts' infoRow
      have hrun := run_make (P := Tryd.prog) z0 30 37 i0 (.slice none 0 0) Tryd.underlying30 hi hz0 .i64 .i64 (len : Int) (len : Int) (by omega) (by omega) (by rw [hz2]; omega) (by omega)
      rw [Int.toNat_natCast, hz1, Nat.mul_one] at hrun
      refine step_make_bk (v := .slice (some ⟨z0.heap.size, 0, none⟩) len len) (w' := z0.alloc (.cells (madeCells #[.slice none 0 0] len) 37)) rfl rfl rfl rfl hrun ?_
      have hb := box1 z0 (.cells (madeCells #[.slice none 0 0] len) 37)
      have Q5 : Hid ((z0.alloc (.cells (madeCells #[.slice none 0 0] len) 37)).heap[z0.heap.size]? = some (.cells ((List.range len).map fun _ => (Value.slice none 0 0)).toArray 37 (0, 0))) := by
        show _ = _
        rw [heap_new, made_rows]
      have E5 := Lib.hid (E3.out.trans (hb.mono E3.out.size))
      have C5 := Lib.hid (cfg_next C3.out hb)
      clear hb hrun hi hz0 hz1 hz2
      show K (Act.put _ (some 26) _) _
      refine hK.out _ _ (C5.out) (fun hHeld1 => ?_)
      clear hK K
      simp only [Act.put, List.setIfInBounds_toArray, List.set_cons_zero, List.set_cons_succ]
      have G5 : Hid (z0.heap.size ≤ z0.heap.size ∧ w0.heap.size ≤ z0.heap.size) := Lib.hid ⟨Nat.le_refl _, E3.out.size⟩
      generalize z0.alloc (.cells (madeCells #[.slice none 0 0] len) 37) = y1 at *
      generalize hq5 : z0.heap.size = qb5 at *
      refine wpAnyH_ready (rs := [1]) (by kernel_rfl) (by simp) ?_
      refine AllReadyH.cons rfl (fun K hK => ?_) (AllReadyH.nil)
      refine step_enter (F := 10) (vals := #[.agg #[.int .i64 W, .int .i64 S, .int .i64 B, .int .i64 T, .slice ad len cap]]) rfl (by kernel_rfl) ?_
      refine (snew_any W S B T ad len cap f y1 (Lib.hid (R0.out.next E5.out)) (by omega)).mono ?_
      rintro e y2 ⟨sb4, clb4, pb4, M4, rfl, st, p1, p2, p3, p4, hb⟩
      have S4 := Lib.hid st
      have F4 : Hid (y1.heap.size ≤ sb4 ∧ y1.heap.size ≤ clb4 ∧ y1.heap.size ≤ pb4 ∧ ∀ j, j < len → y1.heap.size ≤ M4 j) := Lib.hid ⟨p1, p2, p3, p4⟩
      have Y4 := Lib.hid hb
      have E4 := Lib.hid (E5.out.trans (hb.mono E5.out.size))
      have C4 := Lib.hid (cfg_next C5.out hb)
      have Q6 := Lib.hid ((hb.block _ (heap_lt Q5.out)).trans Q5.out)
      clear st p1 p2 p3 p4 hb
      show K (Act.put _ (some 22) _) y2
      refine hK.out _ _ (C4.out) (fun hHeld2 => ?_)
      clear hK K
      simp only [Act.put, List.setIfInBounds_toArray, List.set_cons_zero, List.set_cons_succ]
      refine wpAnyH_take (i := 6) (v := .pointer (some ⟨sb4, 0, none⟩)) rfl (by kernel_rfl) (by kernel_rfl) (by kernel_rfl) (fun _ _ _ h => h) (Or.inl ⟨by rfl, fun w hSw => by obtain ⟨c0, c1, c2, c3, c4⟩ := cfg_cells hSw; go_simp⟩) (by assumption) ?_
      change wpAnyH _ _ _ _ _ _ _ (Act.put _ (some 5) _) _
      simp only [Act.put, List.setIfInBounds_toArray, List.set_cons_zero, List.set_cons_succ]
      refine wpAnyH_take (i := 7) (v := .slice (some ⟨qb5, 0, none⟩) len len) rfl (by kernel_rfl) (by kernel_rfl) (by kernel_rfl) (fun _ _ _ h => h) (Or.inl ⟨by rfl, fun w hSw => by obtain ⟨c0, c1, c2, c3, c4⟩ := cfg_cells hSw; go_simp⟩) (by assumption) ?_
      change wpAnyH _ _ _ _ _ _ _ (Act.put _ (some 6) _) _
      simp only [Act.put, List.setIfInBounds_toArray, List.set_cons_zero, List.set_cons_succ]
      refine ⟨by kernel_rfl, ?_⟩
      refine NoPanic.normal ?_
      have PRS : Hid (Pr y2 (fun b => w0.heap.size ≤ b ∧ b < y2.heap.size) sb4 clb4 pb4 qb5 W S B T len f 0 (fun _ => []) (fun _ => []) (fun _ => .slice none 0 0) M4 (fun _ => .slice none 0 0)) := pr_start S4.out Q6.out (fun _ h => h.2) ⟨⟨by have := F4.out; have := E5.out.size; omega, heap_lt S4.out.box⟩, ⟨by have := F4.out; have := E5.out.size; omega, heap_lt S4.out.row⟩, ⟨by have := F4.out; have := E5.out.size; omega, heap_lt S4.out.pil⟩, ⟨G5.out.2, heap_lt Q6.out⟩⟩ (fun j hj => ⟨by have := F4.out.2.2.2 j hj; have := E5.out.size; omega, (S4.out.set j hj).lt⟩)
      go_wp2_with fail
      go_meet
      case rel => exact ⟨sb4, clb4, pb4, qb5, M4, rfl, rfl, PRS, E4, C4⟩
  case rest =>
    obtain ⟨sb, clb, pb, qb, M, rfl, rfl, PRS, E9, C9⟩ := hcut
    clear C2 E2 C9
    go_wp2_with fail
    go_loopw [29] (fun u29 wr => ∃ (j n : Nat) (A : Nat → Prop) (P : Nat → List (Int × Int)) (L : Nat → Value) (Q : Nat → Value), j ≤ n1 ∧ u29 = .int .i64 (j : Nat) ∧ n ≤ 64 * j ∧ Hid (Pr wr A sb clb pb qb W S B T len f n P P L M Q) ∧ Hid (∀ b, A b → w0.heap.size ≤ b) ∧ Hid (Below w0.heap.size w0 wr)) (fun u29 _ => n1 - (intOf u29).toNat)
    case atStart => exact ⟨0, 0, _, _, _, _, by omega, rfl, by omega, PRS, Lib.hid (fun b h => h.1), E9⟩
    case round =>
      obtain ⟨j, n, A, P, L, Q, hj, rfl, hn, PR, AN, E1⟩ := hrel
      by_cases hlt : j < n1
      · have l3 : (j : Int) < (n1 : Int) := by omega
        have Zr := Lib.hid (Z0.out.next E1.out)
        obtain ⟨ab, off, rfl, hab, q0, q1, q2, q3, q4⟩ := Zr.out.at hlt
        obtain ⟨w1', w2', w3', w4', w5'⟩ := Zr.out.1.2 j hlt
        clear Zr
        generalize Za j = ka at *
        generalize Zb j = kb at *
        generalize Zc j = kc at *
        generalize Zd j = kd at *
        generalize Ze j = ke at *
        have be := bounds_u64 w5'
        obtain ⟨m, rfl⟩ := Int.eq_ofNat_of_zero_le be.1
        have hm : m < 18446744073709551616 := by omega
        clear w1' w2' w5' be
        have hb := box1 wr (.cells #[.int .i64 ka, .int .i64 kb, .int .i64 kc, .int .i64 kd, .int .u64 (m : Nat)] 35)
        have PR2 := Lib.hid (PR.out.start.next hb)
        have E2 := Lib.hid (E1.out.trans (hb.mono E1.out.size))
        have C2 : Hid (Cfg5 _ w.heap.size W S B T (.slice ad len cap)) := (E2.out.block _ (cfg_lt C0.out)).trans C0.out
        have AN2 : Hid (∀ b, (ext A wr.heap.size (wr.alloc (.cells #[.int .i64 ka, .int .i64 kb, .int .i64 kc, .int .i64 kd, .int .u64 (m : Nat)] 35))) b → w0.heap.size ≤ b) := Lib.hid (fun b h => by rcases h with h | h; exact AN.out b h; have := E1.out.size; omega)
        clear hb
        have HS : Hid (∀ y, Kp (ext A wr.heap.size (wr.alloc (.cells #[.int .i64 ka, .int .i64 kb, .int .i64 kc, .int .i64 kd, .int .u64 (m : Nat)] 35))) (wr.alloc (.cells #[.int .i64 ka, .int .i64 kb, .int .i64 kc, .int .i64 kd, .int .u64 (m : Nat)] 35)).heap.size (wr.alloc (.cells #[.int .i64 ka, .int .i64 kb, .int .i64 kc, .int .i64 kd, .int .u64 (m : Nat)] 35)) y → TabAt y ∧ RowI y ad len f) := Lib.hid (fun y h => by
          have h2 := E2.out.trans (h.below AN2.out E2.out.size)
          exact ⟨T0.out.next h2, R0.out.next h2⟩)
        obtain ⟨c0, c1, c2, c3, c4⟩ := cfg_cells C2.out
        by_cases hk : 0 ≤ kb ∧ kb < (len : Int)
        · obtain ⟨k, rfl⟩ := Int.eq_ofNat_of_zero_le hk.1
          have DO := Lib.hid (do_in W S B T ad len cap f sb clb pb qb n P L M Q _ k ka kc kd m _ PR2 HS OK (by omega) (by omega) (by omega) (by omega) ⟨w3', w4'⟩ hm (by omega) (by omega))
          go_wp2_with fail
          refine DO.out.mono ?_
          rintro e w5 ⟨rfl, n5, L5, Q5, hn5, pr, kp⟩
          have E5 := Lib.hid (E2.out.trans (kp.below AN2.out E2.out.size))
          obtain ⟨A5, PR5, AN5⟩ : ∃ A5 : Nat → Prop, Hid (Pr w5 A5 sb clb pb qb W S B T len f n5 _ _ _ M _) ∧ Hid (∀ b, A5 b → w0.heap.size ≤ b) := ⟨_, Lib.hid pr, Lib.hid (fun b h => by rcases h with h | h; exact AN2.out b h; have := E2.out.size; omega)⟩
          clear pr kp DO HS PR2 c0 c1 c2 c3 c4 q0 q1 q2 q3 q4 PR
          go_wp2_with fail
          go_loopw [41] (fun u41 wx => ∃ i : Nat, i ≤ len ∧ u41 = .int .i64 (i : Nat) ∧ Hid (Below w5.heap.size w5 wx)) (fun u41 _ => len - (intOf u41).toNat)
          case atStart => exact ⟨0, by omega, rfl, Lib.hid (Below.refl _ _)⟩
          case round =>
            obtain ⟨i, hi, rfl, B1⟩ := hrel
            have PX := Lib.hid (PR5.out.start.next B1.out)
            by_cases hli : i < len
            · have l5 : (i : Int) < (len : Int) := by omega
              obtain ⟨ua, uc, hq⟩ := ORow.form (PX.out.rows i hli)
              have q0 := PX.out.cell hli
              have RW := Lib.hid (PX.out.rows i hli)
              rw [hq] at q0 RW
              clear hq
              have few := (PX.out.st.bd i hli).1
              have BL := Lib.hid (blocks_in sb clb pb W S B T len f n5 _ _ M i _ (Lib.hid PX.out.st) hli (by omega))
              go_wp2_with fail
              refine BL.out.mono ?_
              rintro e w6 ⟨v', rfl, r1, hb, _⟩
              obtain ⟨va, vc, rfl⟩ := ORow.form r1
              have R1 := Lib.hid r1
              have R2 := Lib.hid (ORow.next RW.out hb)
              have B2 := Lib.hid (B1.out.trans (hb.mono B1.out.size))
              clear r1 hb BL RW q0
              have SA := Lib.hid (same12_any _ _ _ w6 R1 R2 (by omega))
              go_wp2_with fail
              refine SA.out.mono ?_
              rintro e w7 ⟨rfl, hb⟩
              have B3 := Lib.hid (B2.out.trans (hb.mono B2.out.size))
              clear hb SA
              go_wp2_with fail
              go_roundw
              case rel => exact ⟨i + 1, by omega, by push_cast; rfl, B3⟩
              case measure => simp [intOf]; omega
            · obtain rfl : i = len := by omega
              have E6 := Lib.hid (E5.out.trans (B1.out.mono E5.out.size))
              have AN6 : Hid (∀ b, ext A5 w5.heap.size wr b → w0.heap.size ≤ b) := Lib.hid (fun b h => by rcases h with h | h; exact AN5.out b h; have := E5.out.size; omega)
              go_wp2_with fail
              go_roundw
              case rel => exact ⟨j + 1, n5, _, _, _, _, by omega, by push_cast; rfl, by omega, PX, AN6, E6⟩
              case measure => simp [intOf]; omega
        · have DO := Lib.hid (do_out W S B T ad len cap f sb clb pb qb n P L M Q _ kb ka kc kd m _ PR2 HS OK (by omega) (by omega) (by omega) (by omega) hm (by omega))
          go_wp2_with fail
          refine DO.out.mono ?_
          rintro e w5 ⟨rfl, hb⟩
          have pr := PR2.out.start.next hb
          have E5 := Lib.hid (E2.out.trans (hb.mono E2.out.size))
          obtain ⟨n5, A5, hn5, PR5, AN5⟩ : ∃ (n5 : Nat) (A5 : Nat → Prop), n5 = n ∧ Hid (Pr w5 A5 sb clb pb qb W S B T len f n5 _ _ _ M _) ∧ Hid (∀ b, A5 b → w0.heap.size ≤ b) := ⟨n, _, rfl, Lib.hid pr, Lib.hid (fun b h => by rcases h with h | h; exact AN2.out b h; have := E2.out.size; omega)⟩
          clear hb pr DO HS PR2 c0 c1 c2 c3 c4 q0 q1 q2 q3 q4 PR
          go_wp2_with fail
          go_loopw [41] (fun u41 wx => ∃ i : Nat, i ≤ len ∧ u41 = .int .i64 (i : Nat) ∧ Hid (Below w5.heap.size w5 wx)) (fun u41 _ => len - (intOf u41).toNat)
          case atStart => exact ⟨0, by omega, rfl, Lib.hid (Below.refl _ _)⟩
          case round =>
            obtain ⟨i, hi, rfl, B1⟩ := hrel
            have PX := Lib.hid (PR5.out.start.next B1.out)
            by_cases hli : i < len
            · have l5 : (i : Int) < (len : Int) := by omega
              obtain ⟨ua, uc, hq⟩ := ORow.form (PX.out.rows i hli)
              have q0 := PX.out.cell hli
              have RW := Lib.hid (PX.out.rows i hli)
              rw [hq] at q0 RW
              clear hq
              have few := (PX.out.st.bd i hli).1
              have BL := Lib.hid (blocks_in sb clb pb W S B T len f n5 _ _ M i _ (Lib.hid PX.out.st) hli (by omega))
              go_wp2_with fail
              refine BL.out.mono ?_
              rintro e w6 ⟨v', rfl, r1, hb, _⟩
              obtain ⟨va, vc, rfl⟩ := ORow.form r1
              have R1 := Lib.hid r1
              have R2 := Lib.hid (ORow.next RW.out hb)
              have B2 := Lib.hid (B1.out.trans (hb.mono B1.out.size))
              clear r1 hb BL RW q0
              have SA := Lib.hid (same12_any _ _ _ w6 R1 R2 (by omega))
              go_wp2_with fail
              refine SA.out.mono ?_
              rintro e w7 ⟨rfl, hb⟩
              have B3 := Lib.hid (B2.out.trans (hb.mono B2.out.size))
              clear hb SA
              go_wp2_with fail
              go_roundw
              case rel => exact ⟨i + 1, by omega, by push_cast; rfl, B3⟩
              case measure => simp [intOf]; omega
            · obtain rfl : i = len := by omega
              have E6 := Lib.hid (E5.out.trans (B1.out.mono E5.out.size))
              have AN6 : Hid (∀ b, ext A5 w5.heap.size wr b → w0.heap.size ≤ b) := Lib.hid (fun b h => by rcases h with h | h; exact AN5.out b h; have := E5.out.size; omega)
              go_wp2_with fail
              go_roundw
              case rel => exact ⟨j + 1, n5, _, _, _, _, by omega, by push_cast; rfl, by omega, PX, AN6, E6⟩
              case measure => simp [intOf]; omega
      · obtain rfl : j = n1 := by omega
        go_wp2_with fail
        go_ret
        exact ⟨rfl, B0.out.trans (E1.out.mono B0.out.size)⟩
end Go.Proofs.YtagacljfpakgnaaDoor
