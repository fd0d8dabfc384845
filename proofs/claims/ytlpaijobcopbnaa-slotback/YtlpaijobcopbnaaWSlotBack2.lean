/-
  The walk of the statement SlotBack, where a list is too long; and as a whole.
-/
import Derived.Test.YtlpaijobcopbnaaWSlotBack
namespace Go.Proofs.Ytlpaijobcopbnaa
open Go.RowKit Go.Sort

set_option maxRecDepth 20000 in
set_option maxHeartbeats 2000000 in
theorem back8_many (f0 f1 W K la ca lb cb : Nat) (aa ab : Option Addr) (fst : Bool) (w : World) (hW : W = f0 % 20) (hK : K = 1 + f1 % 8) (h0 : f0 < 256) (h1 : f1 < 256) (hla : ¬ la ≤ 200) (hla2 : la < 9223372036854775808) :
    Calls Try.prog 6 #[.agg #[.int .u8 f0, .int .u8 f1, .slice aa la ca, .slice ab lb cb, .bool fst]] w fun e w' => e = .returned (.bool true) ∧ Below w.heap.size w w' := by
  have l1 : (200 : Int) < (la : Int) := by omega
  have EW : Hid ((f0 : Int) % 20 = (W : Int)) := by show _ = _; omega
  have EK : Hid ((1 : Int) + (f1 : Int) % 8 = (K : Int)) := by show _ = _; omega
  have K8 : K ≤ 8 := by omega
  have W20 : W < 20 := by omega
  clear hW hK
  have bx := box1 w (.cells #[.int .u8 f0, .int .u8 f1, .slice aa la ca, .slice ab lb cb, .bool fst] 46)
  have HB0 := Lib.hid fun wx (hb : Below (w.alloc (.cells #[.int .u8 f0, .int .u8 f1, .slice aa la ca, .slice ab lb cb, .bool fst] 46)).heap.size (w.alloc (.cells #[.int .u8 f0, .int .u8 f1, .slice aa la ca, .slice ab lb cb, .bool fst] 46)) wx) => below_two bx hb
  have BC : Hid (Bx8 (w.alloc (.cells #[.int .u8 f0, .int .u8 f1, .slice aa la ca, .slice ab lb cb, .bool fst] 46)) w.heap.size f0 f1 (.slice aa la ca) (.slice ab lb cb) fst) := Bx8.box w f0 f1 _ _ fst _
  clear bx
  go_enter Try.func6, Try.ntmps6
  go_wp2_with fail
  generalize w.alloc (.cells #[.int .u8 f0, .int .u8 f1, .slice aa la ca, .slice ab lb cb, .bool fst] 46) = wa at *
  generalize hN : w.heap.size = N at *
  refine (speaks8 _).mono ?_
  rintro e w1 ⟨rfl, hb⟩
  have B1 := Lib.hid hb
  clear hb
  go_upto_region 3 with fail
  go_cut [3, 4, 5, 6] (fun v3 v4 v5 v6 wx => ∃ q, v3 = .pointer (some ⟨q, 0, none⟩) ∧ v4 = .slice aa la ca ∧ v5 = .slice ab lb cb ∧ v6 = .bool fst ∧ wx.cell? ⟨q, 0, none⟩ = some (.int .u8 f0) ∧ wx.cell? ⟨q, 1, none⟩ = some (.int .u8 f1) ∧ Below wa.heap.size wa wx)
  case first =>
    have C1 := BC.out.next B1.out
    refine wp_region_noPanic ?_
    refine wp_region_held_drew (S := fun w' => w'.cell? ⟨N, 0, none⟩ = some (.int .u8 f0) ∧ w'.cell? ⟨N, 1, none⟩ = some (.int .u8 f1) ∧ w'.cell? ⟨N, 2, none⟩ = some (.slice aa la ca) ∧ w'.cell? ⟨N, 3, none⟩ = some (.slice ab lb cb) ∧ w'.cell? ⟨N, 4, none⟩ = some (.bool fst)) (by kernel_rfl) ⟨C1.c0, C1.c1, C1.c2, C1.c3, C1.c4⟩ (fun hHeld => ?_)
    have C2 := Lib.hid (C1.next (Below.refl _ w1).drew)
    have B2 := Lib.hid (below_two B1.out (Below.refl _ w1).drew)
    clear C1
    generalize w1.drew = x0 at *
    refine wpAnyH_take (i := 0) (v := .pointer (some ⟨N, 0, none⟩)) rfl (by kernel_rfl) (by kernel_rfl) (by kernel_rfl) (fun _ _ _ h => h) (Or.inl ⟨by rfl, fun w hSw => by go_simp⟩) (by assumption) ?_
    change wpAnyH _ _ _ _ _ _ _ (Act.put _ (some 22) _) _
    simp only [Act.put, List.setIfInBounds_toArray, List.set_cons_zero, List.set_cons_succ]
    refine wpAnyH_take (i := 1) (v := .agg #[.int .u8 f0, .int .u8 f1]) rfl (by kernel_rfl) (by kernel_rfl) (by kernel_rfl) (fun _ _ _ h => h) (Or.inl ⟨by rfl, fun w hSw => by obtain ⟨s0, s1, s2, s3, s4⟩ := hSw; go_simp⟩) (by assumption) ?_
    change wpAnyH _ _ _ _ _ _ _ (Act.put _ (some 23) _) _
    simp only [Act.put, List.setIfInBounds_toArray, List.set_cons_zero, List.set_cons_succ]
    refine wpAnyH_take (i := 2) (v := .pointer (some ⟨N, 2, none⟩)) rfl (by kernel_rfl) (by kernel_rfl) (by kernel_rfl) (fun _ _ _ h => h) (Or.inl ⟨by rfl, fun w hSw => by go_simp⟩) (by assumption) ?_
    change wpAnyH _ _ _ _ _ _ _ (Act.put _ (some 24) _) _
    simp only [Act.put, List.setIfInBounds_toArray, List.set_cons_zero, List.set_cons_succ]
    refine wpAnyH_take (i := 3) (v := .slice aa la ca) rfl (by kernel_rfl) (by kernel_rfl) (by kernel_rfl) (fun _ _ _ h => h) (Or.inl ⟨by rfl, fun w hSw => by obtain ⟨s0, s1, s2, s3, s4⟩ := hSw; go_simp⟩) (by assumption) ?_
    change wpAnyH _ _ _ _ _ _ _ (Act.put _ (some 25) _) _
    simp only [Act.put, List.setIfInBounds_toArray, List.set_cons_zero, List.set_cons_succ]
    refine wpAnyH_take (i := 4) (v := .pointer (some ⟨N, 3, none⟩)) rfl (by kernel_rfl) (by kernel_rfl) (by kernel_rfl) (fun _ _ _ h => h) (Or.inl ⟨by rfl, fun w hSw => by go_simp⟩) (by assumption) ?_
    change wpAnyH _ _ _ _ _ _ _ (Act.put _ (some 26) _) _
    simp only [Act.put, List.setIfInBounds_toArray, List.set_cons_zero, List.set_cons_succ]
    refine wpAnyH_take (i := 5) (v := .slice ab lb cb) rfl (by kernel_rfl) (by kernel_rfl) (by kernel_rfl) (fun _ _ _ h => h) (Or.inl ⟨by rfl, fun w hSw => by obtain ⟨s0, s1, s2, s3, s4⟩ := hSw; go_simp⟩) (by assumption) ?_
    change wpAnyH _ _ _ _ _ _ _ (Act.put _ (some 27) _) _
    simp only [Act.put, List.setIfInBounds_toArray, List.set_cons_zero, List.set_cons_succ]
    refine wpAnyH_take (i := 6) (v := .pointer (some ⟨N, 4, none⟩)) rfl (by kernel_rfl) (by kernel_rfl) (by kernel_rfl) (fun _ _ _ h => h) (Or.inl ⟨by rfl, fun w hSw => by go_simp⟩) (by assumption) ?_
    change wpAnyH _ _ _ _ _ _ _ (Act.put _ (some 28) _) _
    simp only [Act.put, List.setIfInBounds_toArray, List.set_cons_zero, List.set_cons_succ]
    refine wpAnyH_take (i := 7) (v := .bool fst) rfl (by kernel_rfl) (by kernel_rfl) (by kernel_rfl) (fun _ _ _ h => h) (Or.inl ⟨by rfl, fun w hSw => by obtain ⟨s0, s1, s2, s3, s4⟩ := hSw; go_simp⟩) (by assumption) ?_
    change wpAnyH _ _ _ _ _ _ _ (Act.put _ (some 29) _) _
    simp only [Act.put, List.setIfInBounds_toArray, List.set_cons_zero, List.set_cons_succ]
    refine wpAnyH_ready (rs := [8]) (by kernel_rfl) (by simp) ?_
    refine AllReadyH.cons rfl (fun KK hK => ?_) AllReadyH.nil
    clear hHeld
    have B3 := Lib.hid (below_two B2.out (box1 x0 (.cells #[.int .u8 0, .int .u8 0] 32)))
    have C3 := Lib.hid (C2.out.next (box1 x0 (.cells #[.int .u8 0, .int .u8 0] 32)))
    have H3 := Lib.hid (heap_new x0 (.cells #[.int .u8 0, .int .u8 0] 32))
    have NQ : Hid (∀ k ∈ [N], k ∉ [x0.heap.size]) := fun k hk => by have := C2.out.lt; simp at hk ⊢; omega
    have Q0 := Lib.hid B2.out.size
    go_simp
    refine hK.out _ _ ⟨C3.out.c0, C3.out.c1, C3.out.c2, C3.out.c3, C3.out.c4⟩ (fun hHeld => ?_)
    clear hK KK hHeld
    generalize x0.alloc (.cells #[.int .u8 0, .int .u8 0] 32) = x1 at *
    generalize x0.heap.size = q at *
    refine wpAnyH_ready (rs := [9]) (by kernel_rfl) (by simp) ?_
    refine AllReadyH.cons rfl (fun KK hK => ?_) AllReadyH.nil
    have z0 := frozen_of (j := 0) H3.out
    have z1 := frozen_of (j := 1) H3.out
    have e0 : x1.cell? ⟨q, 0, none⟩ = some (.int .u8 0) := cell_of H3.out
    have e1 : x1.cell? ⟨q, 1, none⟩ = some (.int .u8 0) := cell_of H3.out
    have X4 : Hid (Only [q] x1 ((x1.setCell ⟨q, 0, none⟩ (.int .u8 f0)).setCell ⟨q, 1, none⟩ (.int .u8 f1))) := (Only.of_set (j := 0) (by simp : q ∈ [q]) (.int .u8 f0)).trans (Only.of_set (j := 1) (by simp : q ∈ [q]) (.int .u8 f1))
    have H4 : Hid (((x1.setCell ⟨q, 0, none⟩ (.int .u8 f0)).setCell ⟨q, 1, none⟩ (.int .u8 f1)).heap[q]? = some (.cells #[.int .u8 f0, .int .u8 f1] 32 (0, 0))) := by
      show _ = _
      rw [set_of (set_of H3.out _) _]; rfl
    have B4 := Lib.hid (below_only B3.out X4.out (fun k hk => by simp at hk; rw [hk]; exact Q0.out))
    have C4 := Lib.hid (C3.out.only X4.out (NQ.out N (by simp)))
    go_simp
    generalize (x1.setCell ⟨q, 0, none⟩ (.int .u8 f0)).setCell ⟨q, 1, none⟩ (.int .u8 f1) = x2 at *
    refine hK.out _ _ ⟨C4.out.c0, C4.out.c1, C4.out.c2, C4.out.c3, C4.out.c4⟩ (fun hHeld => ?_)
    clear hK KK z0 z1 e0 e1
    refine wpAnyH_take (i := 10) (v := .slice aa la ca) rfl (by kernel_rfl) (by kernel_rfl) (by kernel_rfl) (fun _ _ _ h => h) (Or.inl ⟨by rfl, fun w hSw => by go_simp⟩) (by assumption) ?_
    change wpAnyH _ _ _ _ _ _ _ (Act.put _ (some 4) _) _
    simp only [Act.put, List.setIfInBounds_toArray, List.set_cons_zero, List.set_cons_succ]
    refine wpAnyH_take (i := 11) (v := .slice ab lb cb) rfl (by kernel_rfl) (by kernel_rfl) (by kernel_rfl) (fun _ _ _ h => h) (Or.inl ⟨by rfl, fun w hSw => by go_simp⟩) (by assumption) ?_
    change wpAnyH _ _ _ _ _ _ _ (Act.put _ (some 5) _) _
    simp only [Act.put, List.setIfInBounds_toArray, List.set_cons_zero, List.set_cons_succ]
    refine wpAnyH_take (i := 12) (v := .bool fst) rfl (by kernel_rfl) (by kernel_rfl) (by kernel_rfl) (fun _ _ _ h => h) (Or.inl ⟨by rfl, fun w hSw => by go_simp⟩) (by assumption) ?_
    change wpAnyH _ _ _ _ _ _ _ (Act.put _ (some 6) _) _
    simp only [Act.put, List.setIfInBounds_toArray, List.set_cons_zero, List.set_cons_succ]
    refine wpAnyH_done (by kernel_rfl) ?_ _
    refine NoPanic.normal ?_
    go_wp2_with fail
    go_meet
    case rel => exact ⟨q, rfl, rfl, rfl, rfl, cell_of H4.out, cell_of H4.out, B4.out⟩
  case rest =>
    obtain ⟨q, rfl, rfl, rfl, rfl, e0, e1, hb⟩ := hcut
    have B2 := Lib.hid hb
    clear hb B1
    go_upto_region 4 with fail
    have k0 := cell_regrown e0
    have k1 := cell_regrown e1
    refine wp_region_quiet_below (by kernel_rfl) (by kernel_rfl) ?_
    repeat (go_big_quiet_step (fail))
    refine wpQuiet_nil ?_
    intro _ hwq
    obtain ⟨⟨dq, osq⟩, hwq2⟩ := hwq
    subst hwq2
    have HQ := Lib.hid (below_regrown wc dq osq)
    have B3 := Lib.hid (below_two B2.out HQ.out)
    generalize Sort.grow (redrawn wc dq) osq = w3 at *
    clear HQ k0 k1
    clear B2
    go_wp2_with fail
    rw [EW.out, EK.out]
    generalize (f1 : Int) % 8 = k8 at *
    clear EW EK e0 e1
    have B4 := Lib.hid (below_two B3.out (box1 w3 (.cells #[.int .i64 3, .int .i64 (W : Int), .int .i64 (K : Int)] 25)))
    generalize w3.alloc (.cells #[.int .i64 3, .int .i64 (W : Int), .int .i64 (K : Int)] 25) = w4 at *
    refine (record_any 3 W K _ (by omega) (by omega)).mono ?_
    rintro e w5 ⟨rfl, hb⟩
    have B5 := Lib.hid (below_two B4.out hb)
    clear hb B4 B3
    generalize W + 3 * K = n at *
    have B6 := Lib.hid (below_two B5.out (box1 w5 (.cells #[.int .i64 (n : Int)] 3)))
    go_wp2_with fail
    go_ret
    exact ⟨rfl, by first | exact HB0.out _ B6.out | (rw [hN]; exact HB0.out _ B6.out)⟩
set_option maxRecDepth 20000 in
set_option maxHeartbeats 2000000 in
theorem back8_many2 (f0 f1 W K la ca lb cb : Nat) (aa ab : Option Addr) (fst : Bool) (w : World) (hW : W = f0 % 20) (hK : K = 1 + f1 % 8) (h0 : f0 < 256) (h1 : f1 < 256) (hla : la ≤ 200) (hlb : ¬ lb ≤ 200) (hlb2 : lb < 9223372036854775808) :
    Calls Try.prog 6 #[.agg #[.int .u8 f0, .int .u8 f1, .slice aa la ca, .slice ab lb cb, .bool fst]] w fun e w' => e = .returned (.bool true) ∧ Below w.heap.size w w' := by
  have l0 : (la : Int) ≤ 200 := by omega
  have l1 : (200 : Int) < (lb : Int) := by omega
  have EW : Hid ((f0 : Int) % 20 = (W : Int)) := by show _ = _; omega
  have EK : Hid ((1 : Int) + (f1 : Int) % 8 = (K : Int)) := by show _ = _; omega
  have K8 : K ≤ 8 := by omega
  have W20 : W < 20 := by omega
  clear hW hK
  have bx := box1 w (.cells #[.int .u8 f0, .int .u8 f1, .slice aa la ca, .slice ab lb cb, .bool fst] 46)
  have HB0 := Lib.hid fun wx (hb : Below (w.alloc (.cells #[.int .u8 f0, .int .u8 f1, .slice aa la ca, .slice ab lb cb, .bool fst] 46)).heap.size (w.alloc (.cells #[.int .u8 f0, .int .u8 f1, .slice aa la ca, .slice ab lb cb, .bool fst] 46)) wx) => below_two bx hb
  have BC : Hid (Bx8 (w.alloc (.cells #[.int .u8 f0, .int .u8 f1, .slice aa la ca, .slice ab lb cb, .bool fst] 46)) w.heap.size f0 f1 (.slice aa la ca) (.slice ab lb cb) fst) := Bx8.box w f0 f1 _ _ fst _
  clear bx
  go_enter Try.func6, Try.ntmps6
  go_wp2_with fail
  generalize w.alloc (.cells #[.int .u8 f0, .int .u8 f1, .slice aa la ca, .slice ab lb cb, .bool fst] 46) = wa at *
  generalize hN : w.heap.size = N at *
  refine (speaks8 _).mono ?_
  rintro e w1 ⟨rfl, hb⟩
  have B1 := Lib.hid hb
  clear hb
  go_upto_region 3 with fail
  go_cut [3, 4, 5, 6] (fun v3 v4 v5 v6 wx => ∃ q, v3 = .pointer (some ⟨q, 0, none⟩) ∧ v4 = .slice aa la ca ∧ v5 = .slice ab lb cb ∧ v6 = .bool fst ∧ wx.cell? ⟨q, 0, none⟩ = some (.int .u8 f0) ∧ wx.cell? ⟨q, 1, none⟩ = some (.int .u8 f1) ∧ Below wa.heap.size wa wx)
  case first =>
    have C1 := BC.out.next B1.out
    refine wp_region_noPanic ?_
    refine wp_region_held_drew (S := fun w' => w'.cell? ⟨N, 0, none⟩ = some (.int .u8 f0) ∧ w'.cell? ⟨N, 1, none⟩ = some (.int .u8 f1) ∧ w'.cell? ⟨N, 2, none⟩ = some (.slice aa la ca) ∧ w'.cell? ⟨N, 3, none⟩ = some (.slice ab lb cb) ∧ w'.cell? ⟨N, 4, none⟩ = some (.bool fst)) (by kernel_rfl) ⟨C1.c0, C1.c1, C1.c2, C1.c3, C1.c4⟩ (fun hHeld => ?_)
    have C2 := Lib.hid (C1.next (Below.refl _ w1).drew)
    have B2 := Lib.hid (below_two B1.out (Below.refl _ w1).drew)
    clear C1
    generalize w1.drew = x0 at *
    refine wpAnyH_take (i := 0) (v := .pointer (some ⟨N, 0, none⟩)) rfl (by kernel_rfl) (by kernel_rfl) (by kernel_rfl) (fun _ _ _ h => h) (Or.inl ⟨by rfl, fun w hSw => by go_simp⟩) (by assumption) ?_
    change wpAnyH _ _ _ _ _ _ _ (Act.put _ (some 22) _) _
    simp only [Act.put, List.setIfInBounds_toArray, List.set_cons_zero, List.set_cons_succ]
    refine wpAnyH_take (i := 1) (v := .agg #[.int .u8 f0, .int .u8 f1]) rfl (by kernel_rfl) (by kernel_rfl) (by kernel_rfl) (fun _ _ _ h => h) (Or.inl ⟨by rfl, fun w hSw => by obtain ⟨s0, s1, s2, s3, s4⟩ := hSw; go_simp⟩) (by assumption) ?_
    change wpAnyH _ _ _ _ _ _ _ (Act.put _ (some 23) _) _
    simp only [Act.put, List.setIfInBounds_toArray, List.set_cons_zero, List.set_cons_succ]
    refine wpAnyH_take (i := 2) (v := .pointer (some ⟨N, 2, none⟩)) rfl (by kernel_rfl) (by kernel_rfl) (by kernel_rfl) (fun _ _ _ h => h) (Or.inl ⟨by rfl, fun w hSw => by go_simp⟩) (by assumption) ?_
    change wpAnyH _ _ _ _ _ _ _ (Act.put _ (some 24) _) _
    simp only [Act.put, List.setIfInBounds_toArray, List.set_cons_zero, List.set_cons_succ]
    refine wpAnyH_take (i := 3) (v := .slice aa la ca) rfl (by kernel_rfl) (by kernel_rfl) (by kernel_rfl) (fun _ _ _ h => h) (Or.inl ⟨by rfl, fun w hSw => by obtain ⟨s0, s1, s2, s3, s4⟩ := hSw; go_simp⟩) (by assumption) ?_
    change wpAnyH _ _ _ _ _ _ _ (Act.put _ (some 25) _) _
    simp only [Act.put, List.setIfInBounds_toArray, List.set_cons_zero, List.set_cons_succ]
    refine wpAnyH_take (i := 4) (v := .pointer (some ⟨N, 3, none⟩)) rfl (by kernel_rfl) (by kernel_rfl) (by kernel_rfl) (fun _ _ _ h => h) (Or.inl ⟨by rfl, fun w hSw => by go_simp⟩) (by assumption) ?_
    change wpAnyH _ _ _ _ _ _ _ (Act.put _ (some 26) _) _
    simp only [Act.put, List.setIfInBounds_toArray, List.set_cons_zero, List.set_cons_succ]
    refine wpAnyH_take (i := 5) (v := .slice ab lb cb) rfl (by kernel_rfl) (by kernel_rfl) (by kernel_rfl) (fun _ _ _ h => h) (Or.inl ⟨by rfl, fun w hSw => by obtain ⟨s0, s1, s2, s3, s4⟩ := hSw; go_simp⟩) (by assumption) ?_
    change wpAnyH _ _ _ _ _ _ _ (Act.put _ (some 27) _) _
    simp only [Act.put, List.setIfInBounds_toArray, List.set_cons_zero, List.set_cons_succ]
    refine wpAnyH_take (i := 6) (v := .pointer (some ⟨N, 4, none⟩)) rfl (by kernel_rfl) (by kernel_rfl) (by kernel_rfl) (fun _ _ _ h => h) (Or.inl ⟨by rfl, fun w hSw => by go_simp⟩) (by assumption) ?_
    change wpAnyH _ _ _ _ _ _ _ (Act.put _ (some 28) _) _
    simp only [Act.put, List.setIfInBounds_toArray, List.set_cons_zero, List.set_cons_succ]
    refine wpAnyH_take (i := 7) (v := .bool fst) rfl (by kernel_rfl) (by kernel_rfl) (by kernel_rfl) (fun _ _ _ h => h) (Or.inl ⟨by rfl, fun w hSw => by obtain ⟨s0, s1, s2, s3, s4⟩ := hSw; go_simp⟩) (by assumption) ?_
    change wpAnyH _ _ _ _ _ _ _ (Act.put _ (some 29) _) _
    simp only [Act.put, List.setIfInBounds_toArray, List.set_cons_zero, List.set_cons_succ]
    refine wpAnyH_ready (rs := [8]) (by kernel_rfl) (by simp) ?_
    refine AllReadyH.cons rfl (fun KK hK => ?_) AllReadyH.nil
    clear hHeld
    have B3 := Lib.hid (below_two B2.out (box1 x0 (.cells #[.int .u8 0, .int .u8 0] 32)))
    have C3 := Lib.hid (C2.out.next (box1 x0 (.cells #[.int .u8 0, .int .u8 0] 32)))
    have H3 := Lib.hid (heap_new x0 (.cells #[.int .u8 0, .int .u8 0] 32))
    have NQ : Hid (∀ k ∈ [N], k ∉ [x0.heap.size]) := fun k hk => by have := C2.out.lt; simp at hk ⊢; omega
    have Q0 := Lib.hid B2.out.size
    go_simp
    refine hK.out _ _ ⟨C3.out.c0, C3.out.c1, C3.out.c2, C3.out.c3, C3.out.c4⟩ (fun hHeld => ?_)
    clear hK KK hHeld
    generalize x0.alloc (.cells #[.int .u8 0, .int .u8 0] 32) = x1 at *
    generalize x0.heap.size = q at *
    refine wpAnyH_ready (rs := [9]) (by kernel_rfl) (by simp) ?_
    refine AllReadyH.cons rfl (fun KK hK => ?_) AllReadyH.nil
    have z0 := frozen_of (j := 0) H3.out
    have z1 := frozen_of (j := 1) H3.out
    have e0 : x1.cell? ⟨q, 0, none⟩ = some (.int .u8 0) := cell_of H3.out
    have e1 : x1.cell? ⟨q, 1, none⟩ = some (.int .u8 0) := cell_of H3.out
    have X4 : Hid (Only [q] x1 ((x1.setCell ⟨q, 0, none⟩ (.int .u8 f0)).setCell ⟨q, 1, none⟩ (.int .u8 f1))) := (Only.of_set (j := 0) (by simp : q ∈ [q]) (.int .u8 f0)).trans (Only.of_set (j := 1) (by simp : q ∈ [q]) (.int .u8 f1))
    have H4 : Hid (((x1.setCell ⟨q, 0, none⟩ (.int .u8 f0)).setCell ⟨q, 1, none⟩ (.int .u8 f1)).heap[q]? = some (.cells #[.int .u8 f0, .int .u8 f1] 32 (0, 0))) := by
      show _ = _
      rw [set_of (set_of H3.out _) _]; rfl
    have B4 := Lib.hid (below_only B3.out X4.out (fun k hk => by simp at hk; rw [hk]; exact Q0.out))
    have C4 := Lib.hid (C3.out.only X4.out (NQ.out N (by simp)))
    go_simp
    generalize (x1.setCell ⟨q, 0, none⟩ (.int .u8 f0)).setCell ⟨q, 1, none⟩ (.int .u8 f1) = x2 at *
    refine hK.out _ _ ⟨C4.out.c0, C4.out.c1, C4.out.c2, C4.out.c3, C4.out.c4⟩ (fun hHeld => ?_)
    clear hK KK z0 z1 e0 e1
    refine wpAnyH_take (i := 10) (v := .slice aa la ca) rfl (by kernel_rfl) (by kernel_rfl) (by kernel_rfl) (fun _ _ _ h => h) (Or.inl ⟨by rfl, fun w hSw => by go_simp⟩) (by assumption) ?_
    change wpAnyH _ _ _ _ _ _ _ (Act.put _ (some 4) _) _
    simp only [Act.put, List.setIfInBounds_toArray, List.set_cons_zero, List.set_cons_succ]
    refine wpAnyH_take (i := 11) (v := .slice ab lb cb) rfl (by kernel_rfl) (by kernel_rfl) (by kernel_rfl) (fun _ _ _ h => h) (Or.inl ⟨by rfl, fun w hSw => by go_simp⟩) (by assumption) ?_
    change wpAnyH _ _ _ _ _ _ _ (Act.put _ (some 5) _) _
    simp only [Act.put, List.setIfInBounds_toArray, List.set_cons_zero, List.set_cons_succ]
    refine wpAnyH_take (i := 12) (v := .bool fst) rfl (by kernel_rfl) (by kernel_rfl) (by kernel_rfl) (fun _ _ _ h => h) (Or.inl ⟨by rfl, fun w hSw => by go_simp⟩) (by assumption) ?_
    change wpAnyH _ _ _ _ _ _ _ (Act.put _ (some 6) _) _
    simp only [Act.put, List.setIfInBounds_toArray, List.set_cons_zero, List.set_cons_succ]
    refine wpAnyH_done (by kernel_rfl) ?_ _
    refine NoPanic.normal ?_
    go_wp2_with fail
    go_meet
    case rel => exact ⟨q, rfl, rfl, rfl, rfl, cell_of H4.out, cell_of H4.out, B4.out⟩
  case rest =>
    obtain ⟨q, rfl, rfl, rfl, rfl, e0, e1, hb⟩ := hcut
    have B2 := Lib.hid hb
    clear hb B1
    go_upto_region 4 with fail
    have k0 := cell_regrown e0
    have k1 := cell_regrown e1
    refine wp_region_quiet_below (by kernel_rfl) (by kernel_rfl) ?_
    repeat (go_big_quiet_step (fail))
    refine wpQuiet_nil ?_
    intro _ hwq
    obtain ⟨⟨dq, osq⟩, hwq2⟩ := hwq
    subst hwq2
    have HQ := Lib.hid (below_regrown wc dq osq)
    have B3 := Lib.hid (below_two B2.out HQ.out)
    generalize Sort.grow (redrawn wc dq) osq = w3 at *
    clear HQ k0 k1
    clear B2
    go_wp2_with fail
    rw [EW.out, EK.out]
    generalize (f1 : Int) % 8 = k8 at *
    clear EW EK e0 e1
    have B4 := Lib.hid (below_two B3.out (box1 w3 (.cells #[.int .i64 3, .int .i64 (W : Int), .int .i64 (K : Int)] 25)))
    generalize w3.alloc (.cells #[.int .i64 3, .int .i64 (W : Int), .int .i64 (K : Int)] 25) = w4 at *
    refine (record_any 3 W K _ (by omega) (by omega)).mono ?_
    rintro e w5 ⟨rfl, hb⟩
    have B5 := Lib.hid (below_two B4.out hb)
    clear hb B4 B3
    generalize W + 3 * K = n at *
    have B6 := Lib.hid (below_two B5.out (box1 w5 (.cells #[.int .i64 (n : Int)] 3)))
    go_wp2_with fail
    go_ret
    exact ⟨rfl, by first | exact HB0.out _ B6.out | (rw [hN]; exact HB0.out _ B6.out)⟩
theorem back8_walk (f0 f1 : Nat) (aa : Option Addr) (la ca : Nat) (za : List Int) (ab : Option Addr) (lb cb : Nat) (zb : List Int) (fst : Bool) (w : World) (h0 : f0 < 256) (h1 : f1 < 256) (ha : IsRow .u64 w aa la ca za) (hb : IsRow .u64 w ab lb cb zb) :
    Calls Try.prog 6 #[.agg #[.int .u8 f0, .int .u8 f1, .slice aa la ca, .slice ab lb cb, .bool fst]] w fun e w' => e = .returned (.bool true) ∧ Below w.heap.size w w' := by
  obtain ⟨fa, hfa⟩ := ha.row
  obtain ⟨fb, hfb⟩ := hb.row
  have hl := ha.len
  have hl2 := hb.len
  unfold maxLen at hl hl2
  by_cases h2 : la ≤ 200
  · by_cases h3 : lb ≤ 200
    · exact back8_few f0 f1 _ _ la ca lb cb aa ab fst fa fb w rfl rfl h0 h1 h2 h3 hfa hfb
    · exact back8_many2 f0 f1 _ _ la ca lb cb aa ab fst w rfl rfl h0 h1 h2 h3 (by omega)
  · exact back8_many f0 f1 _ _ la ca lb cb aa ab fst w rfl rfl h0 h1 h2 (by omega)

end Go.Proofs.Ytlpaijobcopbnaa
