/-
  The walk of LiveApart: two tables in one memory, one behind the other, know nothing of each other; who looks changes nothing.
-/
import Derived.Test.YtchkgmknhndccaaDoorLiveA
import Derived.Test.YtchkgmknhndccaaDoorRowAct
import Derived.Test.YtchkgmknhndccaaDoorRowBo
namespace Go.Proofs.YtchkgmknhndccaaDoor
open Go.RowKit Go.Sort

/-- What is done, in its box. -/
def Four (w : World) (M : Nat) (k a x y : Int) : Prop := w.heap[M]? = some (.cells #[.int .i64 k, .int .i64 a, .int .i64 x, .int .i64 y] 37 (0, 0))
theorem Four.next {w w' : World} {M : Nat} {k a x y : Int} (h : Four w M k a x y) (hb : Below w.heap.size w w') : Four w' M k a x y := (hb.block M (heap_lt h)).trans h
theorem Four.cells {w : World} {M : Nat} {k a x y : Int} (h : Four w M k a x y) : w.cell? ⟨M, 0, none⟩ = some (.int .i64 k) ∧ w.cell? ⟨M, 1, none⟩ = some (.int .i64 a) ∧ w.cell? ⟨M, 2, none⟩ = some (.int .i64 x) ∧ w.cell? ⟨M, 3, none⟩ = some (.int .i64 y) :=
  ⟨by rw [cell_of h]; rfl, by rw [cell_of h]; rfl, by rw [cell_of h]; rfl, by rw [cell_of h]; rfl⟩
set_option maxRecDepth 20000 in
set_option maxHeartbeats 4000000 in
theorem apart13_no (W S B T : Int) (ad : Option Addr) (len cap : Nat) (f : Nat → Int) (a : Option Addr) (m c : Nat) (a2 : Option Addr) (m2 c2 : Nat) (w : World) (hr : Hid (RowI w ad len f)) (hl : len < 9223372036854775808) (hF : Hid (FldL w)) (hm : Hid (mayB W S B T len f = false)) :
    Calls Tryd.prog 6 #[.agg #[.int .i64 W, .int .i64 S, .int .i64 B, .int .i64 T, .slice ad len cap], .slice a m c, .slice a2 m2 c2] w fun e w' => e = .returned (.bool true) ∧ Below w.heap.size w w' := by
  have K0 : Hid (Ar w (w.alloc (.cells #[.int .i64 W, .int .i64 S, .int .i64 B, .int .i64 T, .slice ad len cap] 24)) w.heap.size W S B T ad len cap f) := Ar.start hr.out
  have F0 : Hid (FldL (w.alloc (.cells #[.int .i64 W, .int .i64 S, .int .i64 B, .int .i64 T, .slice ad len cap] 24))) := hF.out.next (below_alloc w _)
  go_enter Tryd.func6, Tryd.ntmps6
  go_wp2_with fail
  generalize w.alloc (.cells #[.int .i64 W, .int .i64 S, .int .i64 B, .int .i64 T, .slice ad len cap] 24) = w0 at *
  generalize hN : w.heap.size = N at *
  refine (speaks13 _ F0).mono ?_
  rintro e w1 ⟨rfl, hb⟩
  have K1 := Lib.hid (K0.out.next hb)
  clear hb K0 F0
  obtain ⟨q0, q1, q2, q3, q4⟩ := cfg_cells K1.out.c
  go_wp2_with fail
  refine (rmay_any W S B T ad len cap f _ K1.out.r hl).mono ?_
  rintro e w2 ⟨he, hb⟩
  obtain rfl : e = .returned (.bool false) := by rw [he, hm.out]
  have K2 := Lib.hid (K1.out.next hb)
  clear hb K1 he q0 q1 q2 q3 q4
  go_wp2_with fail
  go_ret
  exact ⟨rfl, by rw [hN]; exact K2.out.b⟩
set_option maxRecDepth 20000 in
set_option maxHeartbeats 4000000 in
theorem apart13_many (W S B T : Int) (ad : Option Addr) (len cap : Nat) (f : Nat → Int) (a : Option Addr) (m c : Nat) (a2 : Option Addr) (m2 c2 : Nat) (w : World) (hr : Hid (RowI w ad len f)) (hl : len < 9223372036854775808) (hF : Hid (FldL w)) (hm : Hid (mayB W S B T len f = true)) (hmm : 100 < m) :
    Calls Tryd.prog 6 #[.agg #[.int .i64 W, .int .i64 S, .int .i64 B, .int .i64 T, .slice ad len cap], .slice a m c, .slice a2 m2 c2] w fun e w' => e = .returned (.bool true) ∧ Below w.heap.size w w' := by
  have K0 : Hid (Ar w (w.alloc (.cells #[.int .i64 W, .int .i64 S, .int .i64 B, .int .i64 T, .slice ad len cap] 24)) w.heap.size W S B T ad len cap f) := Ar.start hr.out
  have F0 : Hid (FldL (w.alloc (.cells #[.int .i64 W, .int .i64 S, .int .i64 B, .int .i64 T, .slice ad len cap] 24))) := hF.out.next (below_alloc w _)
  go_enter Tryd.func6, Tryd.ntmps6
  go_wp2_with fail
  generalize w.alloc (.cells #[.int .i64 W, .int .i64 S, .int .i64 B, .int .i64 T, .slice ad len cap] 24) = w0 at *
  generalize hN : w.heap.size = N at *
  refine (speaks13 _ F0).mono ?_
  rintro e w1 ⟨rfl, hb⟩
  have K1 := Lib.hid (K0.out.next hb)
  clear hb K0 F0
  obtain ⟨q0, q1, q2, q3, q4⟩ := cfg_cells K1.out.c
  go_wp2_with fail
  refine (rmay_any W S B T ad len cap f _ K1.out.r hl).mono ?_
  rintro e w2 ⟨he, hb⟩
  obtain rfl : e = .returned (.bool true) := by rw [he, hm.out]
  have K2 := Lib.hid (K1.out.next hb)
  clear hb K1 he q0 q1 q2 q3 q4
  have gm : decide ((100 : Int) < (m : Int)) = true := by simp; omega
  go_wp2_with fail
  go_ret
  exact ⟨rfl, by rw [hN]; exact K2.out.b⟩
set_option maxRecDepth 20000 in
set_option maxHeartbeats 1000000 in
theorem apart13_yes (W S B T : Int) (ad : Option Addr) (len cap : Nat) (f : Nat → Int) (a : Option Addr) (m c : Nat) (a2 : Option Addr) (m2 c2 : Nat) (K A X Y : Nat → Int) (D : Nat → Bool) (w : World) (hr : Hid (RowI w ad len f)) (hl : len < 9223372036854775808) (hF : Hid (FldL w)) (hx : Hid (RowAct w a m K A X Y)) (hd : Hid (RowBo w a2 m2 D)) (hm : Hid (mayB W S B T len f = true)) (hmm : m ≤ 100) :
    Calls Tryd.prog 6 #[.agg #[.int .i64 W, .int .i64 S, .int .i64 B, .int .i64 T, .slice ad len cap], .slice a m c, .slice a2 m2 c2] w fun e w' => e = .returned (.bool true) ∧ Below w.heap.size w w' := by
  have K0 : Hid (Ar w (w.alloc (.cells #[.int .i64 W, .int .i64 S, .int .i64 B, .int .i64 T, .slice ad len cap] 24)) w.heap.size W S B T ad len cap f) := Ar.start hr.out
  have F0 : Hid (FldL (w.alloc (.cells #[.int .i64 W, .int .i64 S, .int .i64 B, .int .i64 T, .slice ad len cap] 24))) := hF.out.next (below_alloc w _)
  go_enter Tryd.func6, Tryd.ntmps6
  go_wp2_with fail
  generalize w.alloc (.cells #[.int .i64 W, .int .i64 S, .int .i64 B, .int .i64 T, .slice ad len cap] 24) = w0 at *
  generalize hN : w.heap.size = N at *
  refine (speaks13 _ F0).mono ?_
  rintro e w1 ⟨rfl, hb⟩
  have K1 := Lib.hid (K0.out.next hb)
  clear hb K0 F0
  obtain ⟨q0, q1, q2, q3, q4⟩ := cfg_cells K1.out.c
  go_wp2_with fail
  refine (rmay_any W S B T ad len cap f _ K1.out.r hl).mono ?_
  rintro e w2 ⟨he, hb⟩
  obtain rfl : e = .returned (.bool true) := by rw [he, hm.out]
  have K2 := Lib.hid (K1.out.next hb)
  clear hb K1 he q0 q1 q2 q3 q4
  have gm : decide ((100 : Int) < (m : Int)) = false := by simp; omega
  obtain ⟨⟨w1, w2⟩, ⟨s1, s2⟩, ⟨b1, b2⟩, ⟨t1, t2⟩, ⟨l1, l2⟩, hcls⟩ := may_nums hm.out
  have OK := Lib.hid (cls_ok hcls)
  clear hcls w1 w2 b1 b2 t1 t2
  obtain ⟨n, hn⟩ : ∃ n : Nat, (n : Int) = S * 64 := ⟨(S * 64).toNat, by omega⟩
  have n1 : 64 ≤ n := by omega
  have n2 : n ≤ 4096 := by omega
  have LSZ : Hid (∀ w, Calls Tryd.prog 13 #[.agg #[.int .i64 W, .int .i64 S, .int .i64 B, .int .i64 T, .slice ad len cap]] w fun e w' => e = .returned (.int .i64 (n : Nat)) ∧ Below w.heap.size w w') := fun w => by
    have := lsize_any W S B T (.slice ad len cap) w (by omega) (by omega)
    rw [← hn] at this
    exact this
  have HN := Lib.hid hn
  clear hn
  have hw2 : IntKind.i64.wrap (2 * (n : Int)) = 2 * (n : Int) := by rw [IntKind.wrap_i64]; omega
  go_upto_region 5 with fail
  go_cut [7, 8] (fun u7 u8 wx => ∃ g h g1 h1, u7 = .pointer (some ⟨g, 0, none⟩) ∧ u8 = .pointer (some ⟨g1, 0, none⟩) ∧ Hid (Ar w wx N W S B T ad len cap f) ∧ Hid (MemAt wx g h (MSt.fresh (2 * n))) ∧ Hid (MemAt wx g1 h1 (MSt.fresh n)) ∧ Hid (N < g ∧ N < h) ∧ Hid (N < g1 ∧ N < h1) ∧ Hid (g < g1 ∧ h < g1 ∧ g < h1 ∧ h < h1))
  case first =>
    have KS := K2
    refine wp_region_noPanic ?_
    refine wp_region_held_drew (S := fun w' => Ar w w' N W S B T ad len cap f) (by kernel_rfl) (KS.out.drew) (fun hHeld => ?_)
    have DR := (Below.refl w2.heap.size w2).drew
    have KS0 := Lib.hid (KS.out.next DR)
    clear DR
    generalize w2.drew = z0 at *
    refine wpAnyH_take (i := 0) (v := .agg #[.int .i64 W, .int .i64 S, .int .i64 B, .int .i64 T, .slice ad len cap]) rfl (by kernel_rfl) (by kernel_rfl) (by kernel_rfl) (fun _ _ _ h => h) (Or.inl ⟨by rfl, fun w hSw => by obtain ⟨q0, q1, q2, q3, q4⟩ := cfg_cells hSw.c; go_simp⟩) (by assumption) ?_
    change wpAnyH _ _ _ _ _ _ _ (Act.put _ (some 28) _) _
    simp only [Act.put, List.setIfInBounds_toArray, List.set_cons_zero, List.set_cons_succ]
    refine wpAnyH_take (i := 4) (v := .agg #[.int .i64 W, .int .i64 S, .int .i64 B, .int .i64 T, .slice ad len cap]) rfl (by kernel_rfl) (by kernel_rfl) (by kernel_rfl) (fun _ _ _ h => h) (Or.inl ⟨by rfl, fun w hSw => by obtain ⟨q0, q1, q2, q3, q4⟩ := cfg_cells hSw.c; go_simp⟩) (by assumption) ?_
    change wpAnyH _ _ _ _ _ _ _ (Act.put _ (some 32) _) _
    simp only [Act.put, List.setIfInBounds_toArray, List.set_cons_zero, List.set_cons_succ]
    refine wpAnyH_ready (rs := [1]) (by kernel_rfl) (by simp) ?_
    refine AllReadyH.cons rfl (fun K hK => ?_) (AllReadyH.nil)
    · refine step_enter (F := 13) (vals := #[.agg #[.int .i64 W, .int .i64 S, .int .i64 B, .int .i64 T, .slice ad len cap]]) rfl (by kernel_rfl) ?_
      refine (LSZ.out _).mono ?_
      rintro e y1 ⟨rfl, hb⟩
      have K1 := Lib.hid (KS0.out.next hb)
      clear hb
      show K (Act.put _ (some 29) _) y1
      refine hK.out _ _ (K1.out) (fun hHeld1 => ?_)
      clear hK K
      simp only [Act.put, List.setIfInBounds_toArray, List.set_cons_zero, List.set_cons_succ]
      refine wpAnyH_take (i := 2) (v := .int .i64 (2 * (n : Int))) rfl (by kernel_rfl) (by kernel_rfl) (by kernel_rfl) (fun _ _ _ h => h) (Or.inl ⟨by rfl, fun w hSw => by obtain ⟨q0, q1, q2, q3, q4⟩ := cfg_cells hSw.c; go_simp⟩) (by assumption) ?_
      change wpAnyH _ _ _ _ _ _ _ (Act.put _ (some 30) _) _
      simp only [Act.put, List.setIfInBounds_toArray, List.set_cons_zero, List.set_cons_succ]
      refine wpAnyH_ready (rs := [3]) (by kernel_rfl) (by simp) ?_
      refine AllReadyH.cons rfl (fun K hK => ?_) (AllReadyH.nil)
      · refine step_enter (F := 12) (vals := #[.int .i64 (2 * (n : Int))]) rfl (by kernel_rfl) ?_
        refine (new_nat (2 * n) (2 * (n : Int)) _ (.inr (.inl ⟨by omega, by omega⟩))).mono ?_
        rintro e y2 ⟨g, h, rfl, m5, q1, q2, hb⟩
        have K2 := Lib.hid (K1.out.next hb)
        have MA2 := Lib.hid m5
        have LMA : Hid (N < g ∧ N < h) := ⟨by have := K1.out.lt; omega, by have := K1.out.lt; omega⟩
        clear m5 q1 q2 hb
        show K (Act.put _ (some 31) _) y2
        refine hK.out _ _ (K2.out) (fun hHeld2 => ?_)
        clear hK K
        simp only [Act.put, List.setIfInBounds_toArray, List.set_cons_zero, List.set_cons_succ]
        refine wpAnyH_ready (rs := [5]) (by kernel_rfl) (by simp) ?_
        refine AllReadyH.cons rfl (fun K hK => ?_) (AllReadyH.nil)
        · refine step_enter (F := 13) (vals := #[.agg #[.int .i64 W, .int .i64 S, .int .i64 B, .int .i64 T, .slice ad len cap]]) rfl (by kernel_rfl) ?_
          refine (LSZ.out _).mono ?_
          rintro e y3 ⟨rfl, hb⟩
          have K3 := Lib.hid (K2.out.next hb)
          have MA3 := Lib.hid (MA2.out.next hb)
          clear hb
          show K (Act.put _ (some 33) _) y3
          refine hK.out _ _ (K3.out) (fun hHeld3 => ?_)
          clear hK K
          simp only [Act.put, List.setIfInBounds_toArray, List.set_cons_zero, List.set_cons_succ]
          refine wpAnyH_ready (rs := [6]) (by kernel_rfl) (by simp) ?_
          refine AllReadyH.cons rfl (fun K hK => ?_) (AllReadyH.nil)
          · refine step_enter (F := 12) (vals := #[.int .i64 (n : Nat)]) rfl (by kernel_rfl) ?_
            refine (new_nat n (n : Int) _ (.inr (.inl ⟨by omega, by omega⟩))).mono ?_
            rintro e y4 ⟨g1, h1, rfl, m5, q1, q2, hb⟩
            have K4 := Lib.hid (K3.out.next hb)
            have MB4 := Lib.hid m5
            have LMB : Hid (N < g1 ∧ N < h1) := ⟨by have := K3.out.lt; omega, by have := K3.out.lt; omega⟩
            have MA4 := Lib.hid (MA3.out.next hb)
            have AP : Hid (g < g1 ∧ h < g1 ∧ g < h1 ∧ h < h1) := ⟨by have := MA3.out.lt; omega, by have := MA3.out.lt; omega, by have := MA3.out.lt; omega, by have := MA3.out.lt; omega⟩
            clear m5 q1 q2 hb
            show K (Act.put _ (some 34) _) y4
            refine hK.out _ _ (K4.out) (fun hHeld4 => ?_)
            clear hK K
            simp only [Act.put, List.setIfInBounds_toArray, List.set_cons_zero, List.set_cons_succ]
            refine wpAnyH_take (i := 7) (v := .pointer (some ⟨g, 0, none⟩)) rfl (by kernel_rfl) (by kernel_rfl) (by kernel_rfl) (fun _ _ _ h => h) (Or.inl ⟨by rfl, fun w hSw => by obtain ⟨q0, q1, q2, q3, q4⟩ := cfg_cells hSw.c; go_simp⟩) (by assumption) ?_
            change wpAnyH _ _ _ _ _ _ _ (Act.put _ (some 7) _) _
            simp only [Act.put, List.setIfInBounds_toArray, List.set_cons_zero, List.set_cons_succ]
            refine wpAnyH_take (i := 8) (v := .pointer (some ⟨g1, 0, none⟩)) rfl (by kernel_rfl) (by kernel_rfl) (by kernel_rfl) (fun _ _ _ h => h) (Or.inl ⟨by rfl, fun w hSw => by obtain ⟨q0, q1, q2, q3, q4⟩ := cfg_cells hSw.c; go_simp⟩) (by assumption) ?_
            change wpAnyH _ _ _ _ _ _ _ (Act.put _ (some 8) _) _
            simp only [Act.put, List.setIfInBounds_toArray, List.set_cons_zero, List.set_cons_succ]
            refine ⟨by kernel_rfl, ?_⟩
            refine NoPanic.normal ?_
            go_wp2_with fail
            go_meet
            case rel => exact ⟨g, h, g1, h1, rfl, rfl, K4, MA4, MB4, LMA, LMB, AP⟩
  case rest =>
    obtain ⟨g, h, g1, h1, rfl, rfl, K6, MA, MB, LMA, LMB, AP⟩ := hcut
    clear K2
    go_upto_region 6 with fail
    go_cut [9, 10, 11] (fun u9 u10 u11 wx => ∃ ta ca tb cb t1 c1, u9 = .pointer (some ⟨ta, 0, none⟩) ∧ u10 = .pointer (some ⟨tb, 0, none⟩) ∧ u11 = .pointer (some ⟨t1, 0, none⟩) ∧ Hid (St w wx N W S B T ad len cap f n ta ca tb cb g h t1 c1 g1 h1 (fun _ => none) (fun _ => none) (fun _ => none) (MSt.fresh (2 * n)) (MSt.fresh n) 0 0))
    case first =>
      refine wp_region_noPanic ?_
      refine wp_region_held_drew (S := fun w' => Ar w w' N W S B T ad len cap f) (by kernel_rfl) (K6.out.drew) (fun hHeld => ?_)
      have DR := (Below.refl wc.heap.size wc).drew
      have K60 := Lib.hid (K6.out.next DR)
      have MA0 := Lib.hid (MA.out.next DR)
      have MB0 := Lib.hid (MB.out.next DR)
      clear DR
      generalize wc.drew = z0 at *
      refine wpAnyH_take (i := 0) (v := .pointer (some ⟨g, 0, none⟩)) rfl (by kernel_rfl) (by kernel_rfl) (by kernel_rfl) (fun _ _ _ h => h) (Or.inl ⟨by rfl, fun w hSw => by obtain ⟨q0, q1, q2, q3, q4⟩ := cfg_cells hSw.c; go_simp⟩) (by assumption) ?_
      change wpAnyH _ _ _ _ _ _ _ (Act.put _ (some 35) _) _
      simp only [Act.put, List.setIfInBounds_toArray, List.set_cons_zero, List.set_cons_succ]
      refine wpAnyH_take (i := 1) (v := .agg #[.int .i64 W, .int .i64 S, .int .i64 B, .int .i64 T, .slice ad len cap]) rfl (by kernel_rfl) (by kernel_rfl) (by kernel_rfl) (fun _ _ _ h => h) (Or.inl ⟨by rfl, fun w hSw => by obtain ⟨q0, q1, q2, q3, q4⟩ := cfg_cells hSw.c; go_simp⟩) (by assumption) ?_
      change wpAnyH _ _ _ _ _ _ _ (Act.put _ (some 36) _) _
      simp only [Act.put, List.setIfInBounds_toArray, List.set_cons_zero, List.set_cons_succ]
      refine wpAnyH_take (i := 3) (v := .pointer (some ⟨g, 0, none⟩)) rfl (by kernel_rfl) (by kernel_rfl) (by kernel_rfl) (fun _ _ _ h => h) (Or.inl ⟨by rfl, fun w hSw => by obtain ⟨q0, q1, q2, q3, q4⟩ := cfg_cells hSw.c; go_simp⟩) (by assumption) ?_
      change wpAnyH _ _ _ _ _ _ _ (Act.put _ (some 38) _) _
      simp only [Act.put, List.setIfInBounds_toArray, List.set_cons_zero, List.set_cons_succ]
      refine wpAnyH_take (i := 4) (v := .agg #[.int .i64 W, .int .i64 S, .int .i64 B, .int .i64 T, .slice ad len cap]) rfl (by kernel_rfl) (by kernel_rfl) (by kernel_rfl) (fun _ _ _ h => h) (Or.inl ⟨by rfl, fun w hSw => by obtain ⟨q0, q1, q2, q3, q4⟩ := cfg_cells hSw.c; go_simp⟩) (by assumption) ?_
      change wpAnyH _ _ _ _ _ _ _ (Act.put _ (some 39) _) _
      simp only [Act.put, List.setIfInBounds_toArray, List.set_cons_zero, List.set_cons_succ]
      refine wpAnyH_take (i := 6) (v := .agg #[.int .i64 W, .int .i64 S, .int .i64 B, .int .i64 T, .slice ad len cap]) rfl (by kernel_rfl) (by kernel_rfl) (by kernel_rfl) (fun _ _ _ h => h) (Or.inl ⟨by rfl, fun w hSw => by obtain ⟨q0, q1, q2, q3, q4⟩ := cfg_cells hSw.c; go_simp⟩) (by assumption) ?_
      change wpAnyH _ _ _ _ _ _ _ (Act.put _ (some 41) _) _
      simp only [Act.put, List.setIfInBounds_toArray, List.set_cons_zero, List.set_cons_succ]
      refine wpAnyH_take (i := 8) (v := .pointer (some ⟨g1, 0, none⟩)) rfl (by kernel_rfl) (by kernel_rfl) (by kernel_rfl) (fun _ _ _ h => h) (Or.inl ⟨by rfl, fun w hSw => by obtain ⟨q0, q1, q2, q3, q4⟩ := cfg_cells hSw.c; go_simp⟩) (by assumption) ?_
      change wpAnyH _ _ _ _ _ _ _ (Act.put _ (some 43) _) _
      simp only [Act.put, List.setIfInBounds_toArray, List.set_cons_zero, List.set_cons_succ]
      refine wpAnyH_take (i := 9) (v := .agg #[.int .i64 W, .int .i64 S, .int .i64 B, .int .i64 T, .slice ad len cap]) rfl (by kernel_rfl) (by kernel_rfl) (by kernel_rfl) (fun _ _ _ h => h) (Or.inl ⟨by rfl, fun w hSw => by obtain ⟨q0, q1, q2, q3, q4⟩ := cfg_cells hSw.c; go_simp⟩) (by assumption) ?_
      change wpAnyH _ _ _ _ _ _ _ (Act.put _ (some 44) _) _
      simp only [Act.put, List.setIfInBounds_toArray, List.set_cons_zero, List.set_cons_succ]
      refine wpAnyH_ready (rs := [2]) (by kernel_rfl) (by simp) ?_
      refine AllReadyH.cons rfl (fun K hK => ?_) (AllReadyH.nil)
      · refine step_enter (F := 14) (vals := #[.pointer (some ⟨g, 0, none⟩), .int .i64 0, .agg #[.int .i64 W, .int .i64 S, .int .i64 B, .int .i64 T, .slice ad len cap]]) rfl (by kernel_rfl) ?_
        refine (lnew_any g 0 W S B T ad len cap f _ (Lib.hid K60.out.r) (by omega) hm).mono ?_
        rintro e y1 ⟨ta, ca, rfl, t5, q3, q4, hb⟩
        have K1 := Lib.hid (K60.out.next hb)
        have MA1 := Lib.hid (MA0.out.next hb)
        have MB1 := Lib.hid (MB0.out.next hb)
        have TA1 := Lib.hid t5
        have ETA : Hid (N < ta ∧ N < ca ∧ ta ≠ g ∧ ta ≠ h ∧ ta ≠ g1 ∧ ta ≠ h1 ∧ ca ≠ g ∧ ca ≠ h ∧ ca ≠ g1 ∧ ca ≠ h1) := by
          have z1 := K60.out.lt
          have z2 := MA0.out.lt
          have z3 := MB0.out.lt
          exact ⟨by omega, by omega, by omega, by omega, by omega, by omega, by omega, by omega, by omega, by omega⟩
        clear t5 q3 q4 hb
        show K (Act.put _ (some 37) _) y1
        refine hK.out _ _ (K1.out) (fun hHeld1 => ?_)
        clear hK K
        simp only [Act.put, List.setIfInBounds_toArray, List.set_cons_zero, List.set_cons_succ]
        refine wpAnyH_ready (rs := [5]) (by kernel_rfl) (by simp) ?_
        refine AllReadyH.cons rfl (fun K hK => ?_) (AllReadyH.nil)
        · refine step_enter (F := 13) (vals := #[.agg #[.int .i64 W, .int .i64 S, .int .i64 B, .int .i64 T, .slice ad len cap]]) rfl (by kernel_rfl) ?_
          refine (LSZ.out _).mono ?_
          rintro e y2 ⟨rfl, hb⟩
          have K62 := Lib.hid (K1.out.next hb)
          have MA2 := Lib.hid (MA1.out.next hb)
          have MB2 := Lib.hid (MB1.out.next hb)
          have TA2 := Lib.hid (TA1.out.next hb)
          clear hb
          show K (Act.put _ (some 40) _) y2
          refine hK.out _ _ (K62.out) (fun hHeld2 => ?_)
          clear hK K
          simp only [Act.put, List.setIfInBounds_toArray, List.set_cons_zero, List.set_cons_succ]
          refine wpAnyH_ready (rs := [7]) (by kernel_rfl) (by simp) ?_
          refine AllReadyH.cons rfl (fun K hK => ?_) (AllReadyH.nil)
          · refine step_enter (F := 14) (vals := #[.pointer (some ⟨g, 0, none⟩), .int .i64 (n : Nat), .agg #[.int .i64 W, .int .i64 S, .int .i64 B, .int .i64 T, .slice ad len cap]]) rfl (by kernel_rfl) ?_
            refine (lnew_any g n W S B T ad len cap f _ (Lib.hid K62.out.r) (by omega) hm).mono ?_
            rintro e y3 ⟨tb, cb, rfl, t5, q3, q4, hb⟩
            have K3 := Lib.hid (K62.out.next hb)
            have MA3 := Lib.hid (MA2.out.next hb)
            have MB3 := Lib.hid (MB2.out.next hb)
            have TA3 := Lib.hid (TA2.out.next hb)
            have TB3 := Lib.hid t5
            have ETB : Hid (N < tb ∧ N < cb ∧ tb ≠ g ∧ tb ≠ h ∧ tb ≠ g1 ∧ tb ≠ h1 ∧ cb ≠ g ∧ cb ≠ h ∧ cb ≠ g1 ∧ cb ≠ h1) := by
              have z1 := K62.out.lt
              have z2 := MA2.out.lt
              have z3 := MB2.out.lt
              exact ⟨by omega, by omega, by omega, by omega, by omega, by omega, by omega, by omega, by omega, by omega⟩
            have AB : Hid (ta ≠ tb) := by
              have := heap_lt TA2.out.box
              show ta ≠ tb
              omega
            clear t5 q3 q4 hb
            show K (Act.put _ (some 42) _) y3
            refine hK.out _ _ (K3.out) (fun hHeld3 => ?_)
            clear hK K
            simp only [Act.put, List.setIfInBounds_toArray, List.set_cons_zero, List.set_cons_succ]
            refine wpAnyH_ready (rs := [10]) (by kernel_rfl) (by simp) ?_
            refine AllReadyH.cons rfl (fun K hK => ?_) (AllReadyH.nil)
            · refine step_enter (F := 14) (vals := #[.pointer (some ⟨g1, 0, none⟩), .int .i64 0, .agg #[.int .i64 W, .int .i64 S, .int .i64 B, .int .i64 T, .slice ad len cap]]) rfl (by kernel_rfl) ?_
              refine (lnew_any g1 0 W S B T ad len cap f _ (Lib.hid K3.out.r) (by omega) hm).mono ?_
              rintro e y4 ⟨t1, c1, rfl, t5, q3, q4, hb⟩
              have K4 := Lib.hid (K3.out.next hb)
              have MA4 := Lib.hid (MA3.out.next hb)
              have MB4 := Lib.hid (MB3.out.next hb)
              have TA4 := Lib.hid (TA3.out.next hb)
              have TB4 := Lib.hid (TB3.out.next hb)
              have TC4 := Lib.hid t5
              have ETC : Hid (N < t1 ∧ N < c1 ∧ t1 ≠ g ∧ t1 ≠ h ∧ t1 ≠ g1 ∧ t1 ≠ h1 ∧ c1 ≠ g ∧ c1 ≠ h ∧ c1 ≠ g1 ∧ c1 ≠ h1) := by
                have z1 := K3.out.lt
                have z2 := MA3.out.lt
                have z3 := MB3.out.lt
                exact ⟨by omega, by omega, by omega, by omega, by omega, by omega, by omega, by omega, by omega, by omega⟩
              clear t5 q3 q4 hb
              show K (Act.put _ (some 45) _) y4
              refine hK.out _ _ (K4.out) (fun hHeld4 => ?_)
              clear hK K
              simp only [Act.put, List.setIfInBounds_toArray, List.set_cons_zero, List.set_cons_succ]
              refine wpAnyH_take (i := 11) (v := .pointer (some ⟨ta, 0, none⟩)) rfl (by kernel_rfl) (by kernel_rfl) (by kernel_rfl) (fun _ _ _ h => h) (Or.inl ⟨by rfl, fun w hSw => by obtain ⟨q0, q1, q2, q3, q4⟩ := cfg_cells hSw.c; go_simp⟩) (by assumption) ?_
              change wpAnyH _ _ _ _ _ _ _ (Act.put _ (some 9) _) _
              simp only [Act.put, List.setIfInBounds_toArray, List.set_cons_zero, List.set_cons_succ]
              refine wpAnyH_take (i := 12) (v := .pointer (some ⟨tb, 0, none⟩)) rfl (by kernel_rfl) (by kernel_rfl) (by kernel_rfl) (fun _ _ _ h => h) (Or.inl ⟨by rfl, fun w hSw => by obtain ⟨q0, q1, q2, q3, q4⟩ := cfg_cells hSw.c; go_simp⟩) (by assumption) ?_
              change wpAnyH _ _ _ _ _ _ _ (Act.put _ (some 10) _) _
              simp only [Act.put, List.setIfInBounds_toArray, List.set_cons_zero, List.set_cons_succ]
              refine wpAnyH_take (i := 13) (v := .pointer (some ⟨t1, 0, none⟩)) rfl (by kernel_rfl) (by kernel_rfl) (by kernel_rfl) (fun _ _ _ h => h) (Or.inl ⟨by rfl, fun w hSw => by obtain ⟨q0, q1, q2, q3, q4⟩ := cfg_cells hSw.c; go_simp⟩) (by assumption) ?_
              change wpAnyH _ _ _ _ _ _ _ (Act.put _ (some 11) _) _
              simp only [Act.put, List.setIfInBounds_toArray, List.set_cons_zero, List.set_cons_succ]
              refine ⟨by kernel_rfl, ?_⟩
              refine NoPanic.normal ?_
              go_wp2_with fail
              have SX : Hid (St w y4 N W S B T ad len cap f n ta ca tb cb g h t1 c1 g1 h1 (fun _ => none) (fun _ => none) (fun _ => none) (MSt.fresh (2 * n)) (MSt.fresh n) 0 0) := by
                have be := K4.out.b
                have hNN : w.heap.size ≤ N := by omega
                have be' : Below w.heap.size w y4 := by rw [hN]; exact be
                have tf1 : Tw (MSt.fresh (2 * n)) 0 n S len (fun _ => none) 0 := Tw.fresh (by omega)
                have tf2 : Tw (MSt.fresh (2 * n)) n n S len (fun _ => none) 0 := Tw.fresh (by omega)
                have tf3 : Tw (MSt.fresh n) 0 n S len (fun _ => none) 0 := Tw.fresh (by omega)
                have hlen : len ≤ 16 := by omega
                have le : ∀ q, N < q → w.heap.size ≤ q := fun q h => Nat.le_trans hNN (Nat.le_of_lt h)
                have ap := AP.out
                have e1 : g ≠ g1 := Nat.ne_of_lt ap.1
                have e2 : h ≠ g1 := Nat.ne_of_lt ap.2.1
                have e3 : g ≠ h1 := Nat.ne_of_lt ap.2.2.1
                have e4 : h ≠ h1 := Nat.ne_of_lt ap.2.2.2
                clear ap
                obtain ⟨za1, za2, za3, za4, za5, za6, za7, za8, za9, za10⟩ := ETA.out
                obtain ⟨zb1, zb2, zb3, zb4, zb5, zb6, zb7, zb8, zb9, zb10⟩ := ETB.out
                obtain ⟨zc1, zc2, zc3, zc4, zc5, zc6, zc7, zc8, zc9, zc10⟩ := ETC.out
                refine ⟨⟨K4.out.c, hr.out, be', TA4.out, MA4.out, hF.out, ⟨hNN, le _ za1, le _ za2, le _ LMA.out.1, le _ LMA.out.2⟩, ⟨za3, za4, za7, za8, Nat.ne_of_lt LMA.out.1, Nat.ne_of_lt LMA.out.2⟩⟩,
                  ⟨K4.out.c, hr.out, be', TB4.out, MA4.out, hF.out, ⟨hNN, le _ zb1, le _ zb2, le _ LMA.out.1, le _ LMA.out.2⟩, ⟨zb3, zb4, zb7, zb8, Nat.ne_of_lt LMA.out.1, Nat.ne_of_lt LMA.out.2⟩⟩,
                  ⟨K4.out.c, hr.out, be', TC4.out, MB4.out, hF.out, ⟨hNN, le _ zc1, le _ zc2, le _ LMB.out.1, le _ LMB.out.2⟩, ⟨zc5, zc6, zc9, zc10, Nat.ne_of_lt LMB.out.1, Nat.ne_of_lt LMB.out.2⟩⟩,
                  tf1, tf2, tf3, AB.out, ⟨fun e => zc3 e.symm, fun e => zc7 e.symm, e1, e3⟩, ⟨fun e => zc4 e.symm, fun e => zc8 e.symm, e2, e4⟩, ⟨za5, za6, za9, za10⟩, ⟨zb5, zb6, zb9, zb10⟩, ⟨HN.out, s1, s2, hlen⟩, OK.out, ⟨Nat.zero_le _, Nat.zero_le _⟩⟩
              go_meet
              case rel => exact ⟨ta, ca, tb, cb, t1, c1, rfl, rfl, rfl, SX⟩
    case rest =>
      rename_i wy
      obtain ⟨ta, ca, tb, cb, t1, c1, rfl, rfl, rfl, X6⟩ := hcut
      clear K6 MA MB LMA LMB AP
      go_wp2_with fail
      go_loopw [48] (fun u48 wr => ∃ (k : Nat) (LA LB : Nat → Option (Int × Int)) (s s1 : MSt) (oo o1 : Nat), k ≤ m ∧ u48 = .int .i64 (k : Nat) ∧ Hid (St w wr N W S B T ad len cap f n ta ca tb cb g h t1 c1 g1 h1 LA LB LA s s1 oo o1) ∧ Hid (oo ≤ 2 * k ∧ o1 ≤ 2 * k)) (fun u48 _ => m - (intOf u48).toNat)
      case atStart => exact ⟨0, _, _, _, _, _, _, by omega, rfl, X6, Lib.hid (by omega)⟩
      case round =>
        obtain ⟨k, LA, LB, s, s1, oo, o1, hk, rfl, X0, HO⟩ := hrel
        by_cases hlt : k < m
        · have l3 : (k : Int) < (m : Int) := by omega
          obtain ⟨ab, aoff, rfl, hc0, hc1, hc2, hc3⟩ := (hx.out.next X0.out.a.be).at hlt
          generalize K k = ka at *
          generalize A k = aa at *
          generalize X k = x at *
          generalize Y k = y at *
          have hba := below_alloc wr (.cells #[.int .i64 ka, .int .i64 aa, .int .i64 x, .int .i64 y] 37)
          have Y1 : Hid (Four (wr.alloc (.cells #[.int .i64 ka, .int .i64 aa, .int .i64 x, .int .i64 y] 37)) wr.heap.size ka aa x y) := heap_new wr (.cells #[.int .i64 ka, .int .i64 aa, .int .i64 x, .int .i64 y] 37)
          have X1 := Lib.hid (X0.out.next hba)
          have NY : Hid (wr.heap.size ≠ g ∧ wr.heap.size ≠ h ∧ wr.heap.size ≠ g1 ∧ wr.heap.size ≠ h1) := ⟨by have := X0.out.a.lts; omega, by have := X0.out.a.lts; omega, by have := X0.out.c.lts; omega, by have := X0.out.c.lts; omega⟩
          clear hba X0
          go_upto_region 10 with fail
          clear hc0 hc1 hc2 hc3
          generalize wr.alloc (.cells #[.int .i64 ka, .int .i64 aa, .int .i64 x, .int .i64 y] 37) = wr1 at *
          generalize wr.heap.size = MY at *
          have hab := X1.out.ab
          have hba2 : ¬ tb = ta := fun e => hab e.symm
          have NY1 := NY.out
          obtain ⟨y0, y1, y2, y3⟩ := Y1.out.cells
          obtain ⟨q0, q1, q2, q3, q4⟩ := cfg_cells X1.out.a.c
          have hop := HO.out
          by_cases hk0 : ka = 0
          · subst hk0
            have SZ := Lib.hid fun w (hr : RowI w ad len f) => size13_any W S B T ad len cap f x y w (Lib.hid hr) (by omega)
            by_cases hmt : MayT S len x y
            · have ZN : Hid ((szT S len f x y == 0) = false) := by
                show _ = _
                rw [beq_eq_false_iff_ne]
                exact fun e => (szT_zero OK.out).1 e hmt
              have zn := ZN.out
              generalize szT S len f x y = V at *
              go_wp2_with fail
              refine (SZ.out _ X1.out.a.r).mono ?_
              rintro e w8 ⟨rfl, hb⟩
              have X2 := Lib.hid (X1.out.next hb)
              have Y2 := Lib.hid (Y1.out.next hb)
              clear hb X1 Y1 q0 q1 q2 q3 q4 y0 y1 y2 y3
              obtain ⟨y0, y1, y2, y3⟩ := Y2.out.cells
              by_cases hsd : k < m2
              · cases hv : D k
                · have l5 : (k : Int) < (m2 : Int) := by omega
                  have d5 : decide ((k : Int) < (m2 : Int)) = true := by simp; omega
                  obtain ⟨sb, soff, rfl, hsc⟩ := (hd.out.next X2.out.a.be).at hsd
                  rw [hv] at hsc
                  go_wp2_with fail
                  refine (X2.out.look (by omega) false aa).mono ?_
                  rintro e v0 ⟨⟨rv0, rfl⟩, o1', sv0, ov0, ho0, z1⟩
                  have X3 := Lib.hid z1
                  have Y3 : Hid (Four v0 MY 0 aa x y) := o1'.at Y2.out (by simp; omega)
                  clear z1 o1' X2 Y2 y0 y1 y2 y3 hsc
                  obtain ⟨y0, y1, y2, y3⟩ := Y3.out.cells
                  have pe0 := tab_same v0 ⟨ta, 0, none⟩
                  go_wp2_with fail
                  clear pe0
                  refine (X3.out.mark (by omega) false aa x y hmt).mono ?_
                  rintro e v1 ⟨⟨rv1, rfl⟩, o1', sv1, ov1, ho1, z1⟩
                  have X4 := Lib.hid z1
                  have Y4 : Hid (Four v1 MY 0 aa x y) := o1'.at Y3.out (by simp; omega)
                  clear z1 o1' X3 Y3 y0 y1 y2 y3
                  obtain ⟨y0, y1, y2, y3⟩ := Y4.out.cells
                  have pe1 := tab_same v1 ⟨ta, 0, none⟩
                  go_wp2_with fail
                  clear pe1
                  refine (X4.out.mark1 (by omega) aa x y hmt).mono ?_
                  rintro e v2 ⟨⟨rv2, rfl⟩, o1', sv2, ov2, ho2, z1⟩
                  have X5 := Lib.hid z1
                  have Y5 : Hid (Four v2 MY 0 aa x y) := o1'.at Y4.out (by simp; omega)
                  clear z1 o1' X4 Y4 y0 y1 y2 y3
                  obtain ⟨y0, y1, y2, y3⟩ := Y5.out.cells
                  have pe2 := tab_same v2 ⟨ta, 0, none⟩
                  go_wp2_with fail
                  clear pe2
                  have XF := X5
                  rw [if_neg (by simp), if_neg (by simp)] at XF
                  go_roundw
                  case rel => exact ⟨k + 1, _, _, _, _, _, _, by omega, by push_cast; rfl, XF, Lib.hid (by omega)⟩
                  case measure => first | (simp [intOf]; done) | (simp [intOf]; omega)
                · have l5 : (k : Int) < (m2 : Int) := by omega
                  have d5 : decide ((k : Int) < (m2 : Int)) = true := by simp; omega
                  obtain ⟨sb, soff, rfl, hsc⟩ := (hd.out.next X2.out.a.be).at hsd
                  rw [hv] at hsc
                  go_wp2_with fail
                  refine (X2.out.look (by omega) true aa).mono ?_
                  rintro e v0 ⟨⟨rv0, rfl⟩, o1', sv0, ov0, ho0, z1⟩
                  have X3 := Lib.hid z1
                  have Y3 : Hid (Four v0 MY 0 aa x y) := o1'.at Y2.out (by simp; omega)
                  clear z1 o1' X2 Y2 y0 y1 y2 y3 hsc
                  obtain ⟨y0, y1, y2, y3⟩ := Y3.out.cells
                  have pe0 := tab_other v0 X3.out.ab.symm X3.out.b.tb.box X3.out.a.tb.box
                  go_wp2_with fail
                  clear pe0
                  refine (X3.out.mark (by omega) true aa x y hmt).mono ?_
                  rintro e v1 ⟨⟨rv1, rfl⟩, o1', sv1, ov1, ho1, z1⟩
                  have X4 := Lib.hid z1
                  have Y4 : Hid (Four v1 MY 0 aa x y) := o1'.at Y3.out (by simp; omega)
                  clear z1 o1' X3 Y3 y0 y1 y2 y3
                  obtain ⟨y0, y1, y2, y3⟩ := Y4.out.cells
                  have pe1 := tab_other v1 X4.out.ab.symm X4.out.b.tb.box X4.out.a.tb.box
                  go_wp2_with fail
                  clear pe1
                  have XF := X4
                  simp only [if_true] at XF
                  go_roundw
                  case rel => exact ⟨k + 1, _, _, _, _, _, _, by omega, by push_cast; rfl, XF, Lib.hid (by omega)⟩
                  case measure => first | (simp [intOf]; done) | (simp [intOf]; omega)
              · have l5 : ¬ ((k : Int) < (m2 : Int)) := by omega
                have d5 : decide ((k : Int) < (m2 : Int)) = false := by simp; omega
                go_wp2_with fail
                refine (X2.out.look (by omega) false aa).mono ?_
                rintro e v0 ⟨⟨rv0, rfl⟩, o1', sv0, ov0, ho0, z1⟩
                have X3 := Lib.hid z1
                have Y3 : Hid (Four v0 MY 0 aa x y) := o1'.at Y2.out (by simp; omega)
                clear z1 o1' X2 Y2 y0 y1 y2 y3
                obtain ⟨y0, y1, y2, y3⟩ := Y3.out.cells
                have pe0 := tab_same v0 ⟨ta, 0, none⟩
                go_wp2_with fail
                clear pe0
                refine (X3.out.mark (by omega) false aa x y hmt).mono ?_
                rintro e v1 ⟨⟨rv1, rfl⟩, o1', sv1, ov1, ho1, z1⟩
                have X4 := Lib.hid z1
                have Y4 : Hid (Four v1 MY 0 aa x y) := o1'.at Y3.out (by simp; omega)
                clear z1 o1' X3 Y3 y0 y1 y2 y3
                obtain ⟨y0, y1, y2, y3⟩ := Y4.out.cells
                have pe1 := tab_same v1 ⟨ta, 0, none⟩
                go_wp2_with fail
                clear pe1
                refine (X4.out.mark1 (by omega) aa x y hmt).mono ?_
                rintro e v2 ⟨⟨rv2, rfl⟩, o1', sv2, ov2, ho2, z1⟩
                have X5 := Lib.hid z1
                have Y5 : Hid (Four v2 MY 0 aa x y) := o1'.at Y4.out (by simp; omega)
                clear z1 o1' X4 Y4 y0 y1 y2 y3
                obtain ⟨y0, y1, y2, y3⟩ := Y5.out.cells
                have pe2 := tab_same v2 ⟨ta, 0, none⟩
                go_wp2_with fail
                clear pe2
                have XF := X5
                rw [if_neg (by simp), if_neg (by simp)] at XF
                go_roundw
                case rel => exact ⟨k + 1, _, _, _, _, _, _, by omega, by push_cast; rfl, XF, Lib.hid (by omega)⟩
                case measure => first | (simp [intOf]; done) | (simp [intOf]; omega)
            · have ZN : Hid (szT S len f x y = 0) := (szT_zero OK.out).2 hmt
              rw [ZN.out] at SZ
              go_wp2_with fail
              refine (SZ.out _ X1.out.a.r).mono ?_
              rintro e w8 ⟨rfl, hb⟩
              have X2 := Lib.hid (X1.out.next hb)
              clear hb
              go_wp2_with fail
              go_roundw
              case rel => exact ⟨k + 1, LA, LB, s, s1, oo, o1, by omega, by push_cast; rfl, X2, Lib.hid (by omega)⟩
              case measure => first | (simp [intOf]; done) | (simp [intOf]; omega)
          · have ek0 : (ka == 0) = false := by simpa using hk0
            have X2 := X1
            have Y2 := Y1
            clear X1 Y1 q0 q1 q2 q3 q4
            by_cases hk1 : ka = 1
            · subst hk1
              by_cases hsd : k < m2
              · cases hv : D k
                · have l5 : (k : Int) < (m2 : Int) := by omega
                  have d5 : decide ((k : Int) < (m2 : Int)) = true := by simp; omega
                  obtain ⟨sb, soff, rfl, hsc⟩ := (hd.out.next X2.out.a.be).at hsd
                  rw [hv] at hsc
                  go_wp2_with fail
                  refine (X2.out.look (by omega) false aa).mono ?_
                  rintro e v0 ⟨⟨rv0, rfl⟩, o1', sv0, ov0, ho0, z1⟩
                  have X3 := Lib.hid z1
                  have Y3 : Hid (Four v0 MY 1 aa x y) := o1'.at Y2.out (by simp; omega)
                  clear z1 o1' X2 Y2 y0 y1 y2 y3 hsc
                  obtain ⟨y0, y1, y2, y3⟩ := Y3.out.cells
                  have pe0 := tab_same v0 ⟨ta, 0, none⟩
                  go_wp2_with fail
                  clear pe0
                  refine (X3.out.take (by omega) false aa).mono ?_
                  rintro e v1 ⟨⟨rv1, rfl⟩, o1', sv1, ov1, ho1, z1⟩
                  have X4 := Lib.hid z1
                  have Y4 : Hid (Four v1 MY 1 aa x y) := o1'.at Y3.out (by simp; omega)
                  clear z1 o1' X3 Y3 y0 y1 y2 y3
                  obtain ⟨y0, y1, y2, y3⟩ := Y4.out.cells
                  have pe1 := tab_same v1 ⟨ta, 0, none⟩
                  go_wp2_with fail
                  clear pe1
                  refine (X4.out.take1 (by omega) aa).mono ?_
                  rintro e v2 ⟨⟨rv2, rfl⟩, o1', sv2, ov2, ho2, z1⟩
                  have X5 := Lib.hid z1
                  have Y5 : Hid (Four v2 MY 1 aa x y) := o1'.at Y4.out (by simp; omega)
                  clear z1 o1' X4 Y4 y0 y1 y2 y3
                  obtain ⟨y0, y1, y2, y3⟩ := Y5.out.cells
                  have pe2 := tab_same v2 ⟨ta, 0, none⟩
                  go_wp2_with fail
                  clear pe2
                  have XF := X5
                  rw [if_neg (by simp), if_neg (by simp)] at XF
                  go_roundw
                  case rel => exact ⟨k + 1, _, _, _, _, _, _, by omega, by push_cast; rfl, XF, Lib.hid (by omega)⟩
                  case measure => first | (simp [intOf]; done) | (simp [intOf]; omega)
                · have l5 : (k : Int) < (m2 : Int) := by omega
                  have d5 : decide ((k : Int) < (m2 : Int)) = true := by simp; omega
                  obtain ⟨sb, soff, rfl, hsc⟩ := (hd.out.next X2.out.a.be).at hsd
                  rw [hv] at hsc
                  go_wp2_with fail
                  refine (X2.out.look (by omega) true aa).mono ?_
                  rintro e v0 ⟨⟨rv0, rfl⟩, o1', sv0, ov0, ho0, z1⟩
                  have X3 := Lib.hid z1
                  have Y3 : Hid (Four v0 MY 1 aa x y) := o1'.at Y2.out (by simp; omega)
                  clear z1 o1' X2 Y2 y0 y1 y2 y3 hsc
                  obtain ⟨y0, y1, y2, y3⟩ := Y3.out.cells
                  have pe0 := tab_other v0 X3.out.ab.symm X3.out.b.tb.box X3.out.a.tb.box
                  go_wp2_with fail
                  clear pe0
                  refine (X3.out.take (by omega) true aa).mono ?_
                  rintro e v1 ⟨⟨rv1, rfl⟩, o1', sv1, ov1, ho1, z1⟩
                  have X4 := Lib.hid z1
                  have Y4 : Hid (Four v1 MY 1 aa x y) := o1'.at Y3.out (by simp; omega)
                  clear z1 o1' X3 Y3 y0 y1 y2 y3
                  obtain ⟨y0, y1, y2, y3⟩ := Y4.out.cells
                  have pe1 := tab_other v1 X4.out.ab.symm X4.out.b.tb.box X4.out.a.tb.box
                  go_wp2_with fail
                  clear pe1
                  have XF := X4
                  simp only [if_true] at XF
                  go_roundw
                  case rel => exact ⟨k + 1, _, _, _, _, _, _, by omega, by push_cast; rfl, XF, Lib.hid (by omega)⟩
                  case measure => first | (simp [intOf]; done) | (simp [intOf]; omega)
              · have l5 : ¬ ((k : Int) < (m2 : Int)) := by omega
                have d5 : decide ((k : Int) < (m2 : Int)) = false := by simp; omega
                go_wp2_with fail
                refine (X2.out.look (by omega) false aa).mono ?_
                rintro e v0 ⟨⟨rv0, rfl⟩, o1', sv0, ov0, ho0, z1⟩
                have X3 := Lib.hid z1
                have Y3 : Hid (Four v0 MY 1 aa x y) := o1'.at Y2.out (by simp; omega)
                clear z1 o1' X2 Y2 y0 y1 y2 y3
                obtain ⟨y0, y1, y2, y3⟩ := Y3.out.cells
                have pe0 := tab_same v0 ⟨ta, 0, none⟩
                go_wp2_with fail
                clear pe0
                refine (X3.out.take (by omega) false aa).mono ?_
                rintro e v1 ⟨⟨rv1, rfl⟩, o1', sv1, ov1, ho1, z1⟩
                have X4 := Lib.hid z1
                have Y4 : Hid (Four v1 MY 1 aa x y) := o1'.at Y3.out (by simp; omega)
                clear z1 o1' X3 Y3 y0 y1 y2 y3
                obtain ⟨y0, y1, y2, y3⟩ := Y4.out.cells
                have pe1 := tab_same v1 ⟨ta, 0, none⟩
                go_wp2_with fail
                clear pe1
                refine (X4.out.take1 (by omega) aa).mono ?_
                rintro e v2 ⟨⟨rv2, rfl⟩, o1', sv2, ov2, ho2, z1⟩
                have X5 := Lib.hid z1
                have Y5 : Hid (Four v2 MY 1 aa x y) := o1'.at Y4.out (by simp; omega)
                clear z1 o1' X4 Y4 y0 y1 y2 y3
                obtain ⟨y0, y1, y2, y3⟩ := Y5.out.cells
                have pe2 := tab_same v2 ⟨ta, 0, none⟩
                go_wp2_with fail
                clear pe2
                have XF := X5
                rw [if_neg (by simp), if_neg (by simp)] at XF
                go_roundw
                case rel => exact ⟨k + 1, _, _, _, _, _, _, by omega, by push_cast; rfl, XF, Lib.hid (by omega)⟩
                case measure => first | (simp [intOf]; done) | (simp [intOf]; omega)
            · have ek1 : (ka == 1) = false := by simpa using hk1
              by_cases hsd : k < m2
              · cases hv : D k
                · have l5 : (k : Int) < (m2 : Int) := by omega
                  have d5 : decide ((k : Int) < (m2 : Int)) = true := by simp; omega
                  obtain ⟨sb, soff, rfl, hsc⟩ := (hd.out.next X2.out.a.be).at hsd
                  rw [hv] at hsc
                  go_wp2_with fail
                  refine (X2.out.look (by omega) false aa).mono ?_
                  rintro e v0 ⟨⟨rv0, rfl⟩, o1', sv0, ov0, ho0, z1⟩
                  have X3 := Lib.hid z1
                  have Y3 : Hid (Four v0 MY ka aa x y) := o1'.at Y2.out (by simp; omega)
                  clear z1 o1' X2 Y2 y0 y1 y2 y3 hsc
                  obtain ⟨y0, y1, y2, y3⟩ := Y3.out.cells
                  have pe0 := tab_same v0 ⟨ta, 0, none⟩
                  go_wp2_with fail
                  clear pe0
                  have XF := X3
                  go_roundw
                  case rel => exact ⟨k + 1, _, _, _, _, _, _, by omega, by push_cast; rfl, XF, Lib.hid (by omega)⟩
                  case measure => first | (simp [intOf]; done) | (simp [intOf]; omega)
                · have l5 : (k : Int) < (m2 : Int) := by omega
                  have d5 : decide ((k : Int) < (m2 : Int)) = true := by simp; omega
                  obtain ⟨sb, soff, rfl, hsc⟩ := (hd.out.next X2.out.a.be).at hsd
                  rw [hv] at hsc
                  go_wp2_with fail
                  refine (X2.out.look (by omega) true aa).mono ?_
                  rintro e v0 ⟨⟨rv0, rfl⟩, o1', sv0, ov0, ho0, z1⟩
                  have X3 := Lib.hid z1
                  have Y3 : Hid (Four v0 MY ka aa x y) := o1'.at Y2.out (by simp; omega)
                  clear z1 o1' X2 Y2 y0 y1 y2 y3 hsc
                  obtain ⟨y0, y1, y2, y3⟩ := Y3.out.cells
                  have pe0 := tab_other v0 X3.out.ab.symm X3.out.b.tb.box X3.out.a.tb.box
                  go_wp2_with fail
                  clear pe0
                  have XF := X3
                  go_roundw
                  case rel => exact ⟨k + 1, _, _, _, _, _, _, by omega, by push_cast; rfl, XF, Lib.hid (by omega)⟩
                  case measure => first | (simp [intOf]; done) | (simp [intOf]; omega)
              · have l5 : ¬ ((k : Int) < (m2 : Int)) := by omega
                have d5 : decide ((k : Int) < (m2 : Int)) = false := by simp; omega
                go_wp2_with fail
                refine (X2.out.look (by omega) false aa).mono ?_
                rintro e v0 ⟨⟨rv0, rfl⟩, o1', sv0, ov0, ho0, z1⟩
                have X3 := Lib.hid z1
                have Y3 : Hid (Four v0 MY ka aa x y) := o1'.at Y2.out (by simp; omega)
                clear z1 o1' X2 Y2 y0 y1 y2 y3
                obtain ⟨y0, y1, y2, y3⟩ := Y3.out.cells
                have pe0 := tab_same v0 ⟨ta, 0, none⟩
                go_wp2_with fail
                clear pe0
                have XF := X3
                go_roundw
                case rel => exact ⟨k + 1, _, _, _, _, _, _, by omega, by push_cast; rfl, XF, Lib.hid (by omega)⟩
                case measure => first | (simp [intOf]; done) | (simp [intOf]; omega)
        · obtain rfl : k = m := by omega
          go_wp2_with fail
          have hlv := X0.out.lim
          have ALA : Hid (∀ y, Below wr.heap.size wr y → Calls Tryd.prog 20 #[.pointer (some ⟨ta, 0, none⟩)] y fun e w' => ∃ v, e = .returned v ∧ IvR w' v (allL S len f LA n) ∧ (∀ q, v.ownBlock = some q → y.heap.size ≤ q) ∧ Below y.heap.size y w') := fun y hb => by
            have G1 := X0.out.next hb
            exact all13_any ta g ca 0 h W S B T len f s n LA y (Lib.hid G1.a.tb) (Lib.hid G1.a.fl) (Lib.hid G1.a.m) (by omega) (by omega) (by omega) OK (by omega) HN.out (Lib.hid G1.wa.lw)
          have ALC : Hid (∀ y, Below wr.heap.size wr y → Calls Tryd.prog 20 #[.pointer (some ⟨t1, 0, none⟩)] y fun e w' => ∃ v, e = .returned v ∧ IvR w' v (allL S len f LA n) ∧ (∀ q, v.ownBlock = some q → y.heap.size ≤ q) ∧ Below y.heap.size y w') := fun y hb => by
            have G1 := X0.out.next hb
            exact all13_any t1 g1 c1 0 h1 W S B T len f s1 n LA y (Lib.hid G1.c.tb) (Lib.hid G1.c.fl) (Lib.hid G1.c.m) (by omega) (by omega) (by omega) OK (by omega) HN.out (Lib.hid G1.wc.lw)
          have FT : Hid (∀ y, Below wr.heap.size wr y → Calls Tryd.prog 21 #[.pointer (some ⟨g, 0, none⟩)] y fun e w' => e = .returned (.int .i64 0) ∧ y = w') := fun y hb => by
            have := faults_any g h s y (X0.out.next hb).a.m
            rw [X0.out.wa.fl] at this
            exact this
          have BE := Lib.hid X0.out.a.be
          have few : (allL S len f LA n).length ≤ n := allL_len _ _ _ _ _
          generalize allL S len f LA n = AL at *
          clear X0 HO hlv
          refine (ALA.out _ (Below.refl _ _)).mono ?_
          rintro e wp ⟨v1, rfl, r1, _, hb⟩
          have R1 := Lib.hid r1
          have B1 := Lib.hid hb
          clear r1 hb
          go_wp2_with fail
          refine (ALC.out _ B1.out).mono ?_
          rintro e wq ⟨v2, rfl, r2, _, hb⟩
          have R2 := Lib.hid r2
          have R1' := Lib.hid (R1.out.next hb)
          have B2 := Lib.hid (B1.out.trans (hb.mono B1.out.size))
          clear r2 hb R1 B1
          obtain ⟨pa, pc, hv1⟩ := ORow.form R1'.out
          obtain ⟨qa, qc, hv2⟩ := ORow.form R2.out
          subst hv1 hv2
          go_wp2_with fail
          refine (FT.out _ B2.out).mono ?_
          rintro e wq' ⟨rfl, rfl⟩
          go_wp2_with fail
          go_loopw [138] (fun u wz => ∃ i : Nat, i ≤ AL.length ∧ u = .int .i64 (i : Nat) ∧ Hid (Below wq.heap.size wq wz)) (fun u _ => AL.length - (intOf u).toNat)
          case atStart => exact ⟨0, Nat.zero_le _, rfl, Below.refl _ _⟩
          case round =>
            obtain ⟨i, hi, rfl, Bz⟩ := hrel
            by_cases hil : i < AL.length
            · have l3' : (i : Int) < (AL.length : Int) := by omega
              obtain ⟨p1, p2⟩ : ∃ p : Int × Int, AL[i]? = some p := ⟨_, List.getElem?_eq_getElem hil⟩
              obtain ⟨b1, k1, e1, hc1, _⟩ := ORow.at ivEnc (R1'.out.next Bz.out) p2
              obtain ⟨b2, k2, e2, hc2, _⟩ := ORow.at ivEnc (R2.out.next Bz.out) p2
              cases e1
              cases e2
              have x0 := hc1 0 _ rfl
              have x1 := hc1 1 _ rfl
              have y0 := hc2 0 _ rfl
              have y1 := hc2 1 _ rfl
              rw [Nat.add_zero] at x0 y0
              clear hc1 hc2
              generalize p1.1 = P1 at *
              generalize p1.2 = P2 at *
              go_upto_region 31 with fail
              have kx0 := cell_regrown x0
              have kx1 := cell_regrown x1
              have ky0 := cell_regrown y0
              have ky1 := cell_regrown y1
              clear x0 x1 y0 y1
              refine wp_region_quiet_below (by kernel_rfl) (by kernel_rfl) ?_
              repeat (go_big_quiet_step (fail))
              refine wpQuiet_nil ?_
              intro _ hw'
              obtain ⟨⟨dq, osq⟩, hw''⟩ := hw'
              subst hw''
              have Bn := Lib.hid (Bz.out.trans ((below_regrown _ dq osq).mono Bz.out.size))
              go_wp2_with fail
              go_roundw
              case rel => exact ⟨i + 1, by omega, by push_cast; rfl, Bn⟩
              case measure => first | (simp [intOf]; done) | (simp [intOf]; omega)
            · obtain rfl : i = AL.length := by omega
              go_wp2_with fail
              go_ret
              exact ⟨rfl, by have := BE.out.trans ((B2.out.trans (Bz.out.mono B2.out.size)).mono BE.out.size); first | exact this | (rw [hN]; exact this)⟩
theorem apart13_walk (W S B T : Int) (ad : Option Addr) (len cap : Nat) (f : Nat → Int) (a : Option Addr) (m c : Nat) (a2 : Option Addr) (m2 c2 : Nat) (K A X Y : Nat → Int) (D : Nat → Bool) (w : World) (hr : RowI w ad len f) (hl : len < 9223372036854775808) (hF : FldL w) (hx : RowAct w a m K A X Y) (hd : RowBo w a2 m2 D) :
    Calls Tryd.prog 6 #[.agg #[.int .i64 W, .int .i64 S, .int .i64 B, .int .i64 T, .slice ad len cap], .slice a m c, .slice a2 m2 c2] w fun e w' => e = .returned (.bool true) ∧ Below w.heap.size w w' := by
  rcases h : mayB W S B T len f with _ | _
  · exact apart13_no W S B T ad len cap f a m c a2 m2 c2 w (Lib.hid hr) hl (Lib.hid hF) (Lib.hid h)
  · by_cases hmm : 100 < m
    · exact apart13_many W S B T ad len cap f a m c a2 m2 c2 w (Lib.hid hr) hl (Lib.hid hF) (Lib.hid h) hmm
    · exact apart13_yes W S B T ad len cap f a m c a2 m2 c2 K A X Y D w (Lib.hid hr) hl (Lib.hid hF) (Lib.hid hx) (Lib.hid hd) (Lib.hid h) (by omega)
end Go.Proofs.YtchkgmknhndccaaDoor
