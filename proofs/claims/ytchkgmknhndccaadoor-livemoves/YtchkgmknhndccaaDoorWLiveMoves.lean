/-
  The walk of LiveMoves: what was marked last at a place is what is live there; a thing of another kind, too.
-/
import Derived.Test.YtchkgmknhndccaaDoorLiveW
import Derived.Test.YtchkgmknhndccaaDoorRowTh
namespace Go.Proofs.YtchkgmknhndccaaDoor
open Go.RowKit Go.Sort

set_option maxRecDepth 20000 in
set_option maxHeartbeats 4000000 in
theorem moves_no (W S B T : Int) (ad : Option Addr) (len cap : Nat) (f : Nat → Int) (G : Nat) (a : Option Addr) (m c : Nat)  (w : World) (hr : Hid (RowI w ad len f)) (hl : len < 9223372036854775808) (hF : Hid (FldL w)) (hm : Hid (mayB W S B T len f = false)) :
    Calls Tryd.prog 7 #[.agg #[.int .i64 W, .int .i64 S, .int .i64 B, .int .i64 T, .slice ad len cap], .int .u16 (G : Nat), .slice a m c] w fun e w' => e = .returned (.bool true) ∧ Below w.heap.size w w' := by
  have K0 : Hid (Ar w (w.alloc (.cells #[.int .i64 W, .int .i64 S, .int .i64 B, .int .i64 T, .slice ad len cap] 24)) w.heap.size W S B T ad len cap f) := Ar.start hr.out
  have F0 : Hid (FldL (w.alloc (.cells #[.int .i64 W, .int .i64 S, .int .i64 B, .int .i64 T, .slice ad len cap] 24))) := hF.out.next (below_alloc w _)
  go_enter Tryd.func7, Tryd.ntmps7
  go_wp2_with fail
  generalize w.alloc (.cells #[.int .i64 W, .int .i64 S, .int .i64 B, .int .i64 T, .slice ad len cap] 24) = w0 at *
  generalize hN : w.heap.size = N at *
  refine (speaks13 _ F0).mono ?_
  rintro e w1 ⟨rfl, hb⟩
  have K1 := Lib.hid (K0.out.next hb)
  clear hb K0 F0
  obtain ⟨c0, c1, c2, c3, c4⟩ := cfg_cells K1.out.c
  go_wp2_with fail
  refine (rmay_any W S B T ad len cap f _ K1.out.r hl).mono ?_
  rintro e w2 ⟨he, hb⟩
  obtain rfl : e = .returned (.bool false) := by rw [he, hm.out]
  have K2 := Lib.hid (K1.out.next hb)
  clear hb K1 he c0 c1 c2 c3 c4
  go_wp2_with fail
  go_ret
  exact ⟨rfl, by rw [hN]; exact K2.out.b⟩
set_option maxRecDepth 20000 in
set_option maxHeartbeats 4000000 in
theorem moves_many (W S B T : Int) (ad : Option Addr) (len cap : Nat) (f : Nat → Int) (G : Nat) (a : Option Addr) (m c : Nat)  (w : World) (hr : Hid (RowI w ad len f)) (hl : len < 9223372036854775808) (hF : Hid (FldL w)) (hm : Hid (mayB W S B T len f = true)) (hmm : 60 < m) :
    Calls Tryd.prog 7 #[.agg #[.int .i64 W, .int .i64 S, .int .i64 B, .int .i64 T, .slice ad len cap], .int .u16 (G : Nat), .slice a m c] w fun e w' => e = .returned (.bool true) ∧ Below w.heap.size w w' := by
  have K0 : Hid (Ar w (w.alloc (.cells #[.int .i64 W, .int .i64 S, .int .i64 B, .int .i64 T, .slice ad len cap] 24)) w.heap.size W S B T ad len cap f) := Ar.start hr.out
  have F0 : Hid (FldL (w.alloc (.cells #[.int .i64 W, .int .i64 S, .int .i64 B, .int .i64 T, .slice ad len cap] 24))) := hF.out.next (below_alloc w _)
  go_enter Tryd.func7, Tryd.ntmps7
  go_wp2_with fail
  generalize w.alloc (.cells #[.int .i64 W, .int .i64 S, .int .i64 B, .int .i64 T, .slice ad len cap] 24) = w0 at *
  generalize hN : w.heap.size = N at *
  refine (speaks13 _ F0).mono ?_
  rintro e w1 ⟨rfl, hb⟩
  have K1 := Lib.hid (K0.out.next hb)
  clear hb K0 F0
  obtain ⟨c0, c1, c2, c3, c4⟩ := cfg_cells K1.out.c
  go_wp2_with fail
  refine (rmay_any W S B T ad len cap f _ K1.out.r hl).mono ?_
  rintro e w2 ⟨he, hb⟩
  obtain rfl : e = .returned (.bool true) := by rw [he, hm.out]
  have K2 := Lib.hid (K1.out.next hb)
  clear hb K1 he c0 c1 c2 c3 c4
  have gm : decide ((60 : Int) < (m : Int)) = true := by simp; omega
  go_wp2_with fail
  go_ret
  exact ⟨rfl, by rw [hN]; exact K2.out.b⟩
set_option maxRecDepth 20000 in
set_option maxHeartbeats 8000000 in
theorem moves_yes (W S B T : Int) (ad : Option Addr) (len cap : Nat) (f : Nat → Int) (G : Nat) (a : Option Addr) (m c : Nat) (X Y : Nat → Int) (hG : G < 65536) (w : World) (hr : Hid (RowI w ad len f)) (hl : len < 9223372036854775808) (hF : Hid (FldL w)) (hx : Hid (RowTh w a m X Y)) (hm : Hid (mayB W S B T len f = true)) (hmm : m ≤ 60) :
    Calls Tryd.prog 7 #[.agg #[.int .i64 W, .int .i64 S, .int .i64 B, .int .i64 T, .slice ad len cap], .int .u16 (G : Nat), .slice a m c] w fun e w' => e = .returned (.bool true) ∧ Below w.heap.size w w' := by
  have K0 : Hid (Ar w (w.alloc (.cells #[.int .i64 W, .int .i64 S, .int .i64 B, .int .i64 T, .slice ad len cap] 24)) w.heap.size W S B T ad len cap f) := Ar.start hr.out
  have F0 : Hid (FldL (w.alloc (.cells #[.int .i64 W, .int .i64 S, .int .i64 B, .int .i64 T, .slice ad len cap] 24))) := hF.out.next (below_alloc w _)
  go_enter Tryd.func7, Tryd.ntmps7
  go_wp2_with fail
  generalize w.alloc (.cells #[.int .i64 W, .int .i64 S, .int .i64 B, .int .i64 T, .slice ad len cap] 24) = w0 at *
  generalize hN : w.heap.size = N at *
  refine (speaks13 _ F0).mono ?_
  rintro e w1 ⟨rfl, hb⟩
  have K1 := Lib.hid (K0.out.next hb)
  clear hb K0 F0
  obtain ⟨c0, c1, c2, c3, c4⟩ := cfg_cells K1.out.c
  go_wp2_with fail
  refine (rmay_any W S B T ad len cap f _ K1.out.r hl).mono ?_
  rintro e w2 ⟨he, hb⟩
  obtain rfl : e = .returned (.bool true) := by rw [he, hm.out]
  have K2 := Lib.hid (K1.out.next hb)
  clear hb K1 he c0 c1 c2 c3 c4
  have gm : decide ((60 : Int) < (m : Int)) = false := by simp; omega
  obtain ⟨⟨w1, w2⟩, ⟨s1, s2⟩, ⟨b1, b2⟩, ⟨t1, t2⟩, ⟨l1, l2⟩, hcls⟩ := may_nums hm.out
  have OK := Lib.hid (cls_ok hcls)
  clear hcls w1 w2 b1 b2 t1 t2
  obtain ⟨n, hn⟩ : ∃ n : Nat, (n : Int) = S * 64 := ⟨(S * 64).toNat, by omega⟩
  have n1 : 64 ≤ n := by omega
  have n2 : n ≤ 4096 := by omega
  have LSZ : Hid (∀ w, Calls Tryd.prog 13 #[.agg #[.int .i64 W, .int .i64 S, .int .i64 B, .int .i64 T, .slice ad len cap]] w fun e w' => e = .returned (.int .i64 (n : Nat)) ∧ Below w.heap.size w w') := fun w => by
    have := lsize_any W S B T (.slice ad len cap) w (by omega) (by omega)
    rw [← hn] at this
    exact this
  have HN := Lib.hid hn
  clear hn
  obtain ⟨c0, c1, c2, c3, c4⟩ := cfg_cells K2.out.c
  go_wp2_with fail
  refine (LSZ.out _).mono ?_
  rintro e w3 ⟨rfl, hb⟩
  have K3 := Lib.hid (K2.out.next hb)
  have lt3 := K3.out.lt
  clear hb K2 c0 c1 c2 c3 c4
  obtain ⟨c0, c1, c2, c3, c4⟩ := cfg_cells K3.out.c
  go_wp2_with fail
  refine (new_nat n (n : Int) _ (.inr (.inl ⟨by omega, by omega⟩))).mono ?_
  rintro e w4 ⟨g, h, rfl, m5, q1, q2, hb⟩
  have K4 := Lib.hid (K3.out.next hb)
  have M4 := Lib.hid m5
  have Q1 := Lib.hid (Nat.lt_of_lt_of_le lt3 q1)
  have Q2 := Lib.hid (Nat.lt_of_lt_of_le lt3 q2)
  clear hb K3 m5 q1 q2 c0 c1 c2 c3 c4 lt3
  obtain ⟨j, hj, hjn⟩ : ∃ j : Nat, (G : Int) % (64 * S) = (j : Int) ∧ j < n := by
    have h1 := Int.emod_nonneg (G : Int) (show 64 * S ≠ 0 by omega)
    have h2 := Int.emod_lt_of_pos (G : Int) (show 0 < 64 * S by omega)
    have := HN.out
    exact ⟨((G : Int) % (64 * S)).toNat, by omega, by omega⟩
  have hs : IntKind.i64.wrap (64 * S) = 64 * S := by rw [IntKind.wrap_i64]; omega
  have hz : (64 * S == 0) = false := by simp; omega
  have hz3 : ¬ (64 * S = 0) := by omega
  have hG1 : IntKind.i64.wrap (G : Int) = (G : Int) := by rw [IntKind.wrap_i64]; omega
  have hwj : IntKind.i64.wrap (j : Int) = (j : Int) := by rw [IntKind.wrap_i64]; omega
  obtain ⟨AT, hAT⟩ : ∃ AT : Int, 65536 + 16 * (j : Int) = AT := ⟨_, rfl⟩
  have HAT : Hid (AT = 65536 + 16 * (j : Int)) := hAT.symm
  have hw1 : IntKind.i64.wrap (16 * (j : Int)) = 16 * (j : Int) := by rw [IntKind.wrap_i64]; omega
  have hw2 : IntKind.i64.wrap AT = AT := by rw [IntKind.wrap_i64]; omega
  have hjS : Hid ((j : Int) < 64 * S) := by have := HN.out; show _ < _; omega
  go_upto_region 6 with fail
  go_cut [8, 9] (fun u8 u9 wx => ∃ t cb, u8 = .pointer (some ⟨t, 0, none⟩) ∧ u9 = .int .i64 AT ∧ Hid (Ls w wx N W S B T ad len cap f t g h cb 0 (MSt.fresh n)))
  case first =>
    refine wp_region_noPanic ?_
    refine wp_region_held_drew (S := fun w' => Ar w w' N W S B T ad len cap f) (by kernel_rfl) (K4.out.drew) (fun hHeld => ?_)
    have DR := (Below.refl w4.heap.size w4).drew
    have K40 := Lib.hid (K4.out.next DR)
    have M40 := Lib.hid (M4.out.next DR)
    clear DR
    generalize w4.drew = z0 at *
    refine wpAnyH_take (i := 0) (v := .pointer (some ⟨g, 0, none⟩)) rfl (by kernel_rfl) (by kernel_rfl) (by kernel_rfl) (fun _ _ _ h => h) (Or.inl ⟨by rfl, fun w hSw => by obtain ⟨c0, c1, c2, c3, c4⟩ := cfg_cells hSw.c; go_simp⟩) (by assumption) ?_
    change wpAnyH _ _ _ _ _ _ _ (Act.put _ (some 31) _) _
    simp only [Act.put, List.setIfInBounds_toArray, List.set_cons_zero, List.set_cons_succ]
    refine wpAnyH_take (i := 1) (v := .agg #[.int .i64 W, .int .i64 S, .int .i64 B, .int .i64 T, .slice ad len cap]) rfl (by kernel_rfl) (by kernel_rfl) (by kernel_rfl) (fun _ _ _ h => h) (Or.inl ⟨by rfl, fun w hSw => by obtain ⟨c0, c1, c2, c3, c4⟩ := cfg_cells hSw.c; go_simp⟩) (by assumption) ?_
    change wpAnyH _ _ _ _ _ _ _ (Act.put _ (some 32) _) _
    simp only [Act.put, List.setIfInBounds_toArray, List.set_cons_zero, List.set_cons_succ]
    refine wpAnyH_take (i := 3) (v := .int .u16 (G : Nat)) rfl (by kernel_rfl) (by kernel_rfl) (by kernel_rfl) (fun _ _ _ h => h) (Or.inl ⟨by rfl, fun w hSw => by obtain ⟨c0, c1, c2, c3, c4⟩ := cfg_cells hSw.c; go_simp⟩) (by assumption) ?_
    change wpAnyH _ _ _ _ _ _ _ (Act.put _ (some 34) _) _
    simp only [Act.put, List.setIfInBounds_toArray, List.set_cons_zero, List.set_cons_succ]
    refine wpAnyH_take (i := 4) (v := .int .i64 (G : Nat)) rfl (by kernel_rfl) (by kernel_rfl) (by kernel_rfl) (fun _ _ _ h => h) (Or.inl ⟨by rfl, fun w hSw => by obtain ⟨c0, c1, c2, c3, c4⟩ := cfg_cells hSw.c; go_simp⟩) (by assumption) ?_
    change wpAnyH _ _ _ _ _ _ _ (Act.put _ (some 35) _) _
    simp only [Act.put, List.setIfInBounds_toArray, List.set_cons_zero, List.set_cons_succ]
    refine wpAnyH_take (i := 5) (v := .pointer (some ⟨N, 1, none⟩)) rfl (by kernel_rfl) (by kernel_rfl) (by kernel_rfl) (fun _ _ _ h => h) (Or.inl ⟨by rfl, fun w hSw => by obtain ⟨c0, c1, c2, c3, c4⟩ := cfg_cells hSw.c; go_simp⟩) (by assumption) ?_
    change wpAnyH _ _ _ _ _ _ _ (Act.put _ (some 36) _) _
    simp only [Act.put, List.setIfInBounds_toArray, List.set_cons_zero, List.set_cons_succ]
    refine wpAnyH_take (i := 6) (v := .int .i64 S) rfl (by kernel_rfl) (by kernel_rfl) (by kernel_rfl) (fun _ _ _ h => h) (Or.inl ⟨by rfl, fun w hSw => by obtain ⟨c0, c1, c2, c3, c4⟩ := cfg_cells hSw.c; go_simp⟩) (by assumption) ?_
    change wpAnyH _ _ _ _ _ _ _ (Act.put _ (some 37) _) _
    simp only [Act.put, List.setIfInBounds_toArray, List.set_cons_zero, List.set_cons_succ]
    refine wpAnyH_take (i := 7) (v := .int .i64 (64 * S)) rfl (by kernel_rfl) (by kernel_rfl) (by kernel_rfl) (fun _ _ _ h => h) (Or.inl ⟨by rfl, fun w hSw => by obtain ⟨c0, c1, c2, c3, c4⟩ := cfg_cells hSw.c; go_simp⟩) (by assumption) ?_
    change wpAnyH _ _ _ _ _ _ _ (Act.put _ (some 38) _) _
    simp only [Act.put, List.setIfInBounds_toArray, List.set_cons_zero, List.set_cons_succ]
    refine wpAnyH_take (i := 8) (v := .int .i64 (j : Nat)) rfl (by kernel_rfl) (by kernel_rfl) (by kernel_rfl) (fun _ _ _ h => h) (Or.inl ⟨by rfl, fun w hSw => by obtain ⟨c0, c1, c2, c3, c4⟩ := cfg_cells hSw.c; go_simp; rw [Int.tmod_eq_emod_of_nonneg (by omega)]; exact hj⟩) (by assumption) ?_
    change wpAnyH _ _ _ _ _ _ _ (Act.put _ (some 39) _) _
    simp only [Act.put, List.setIfInBounds_toArray, List.set_cons_zero, List.set_cons_succ]
    refine wpAnyH_take (i := 9) (v := .int .i64 (16 * (j : Int))) rfl (by kernel_rfl) (by kernel_rfl) (by kernel_rfl) (fun _ _ _ h => h) (Or.inl ⟨by rfl, fun w hSw => by obtain ⟨c0, c1, c2, c3, c4⟩ := cfg_cells hSw.c; go_simp⟩) (by assumption) ?_
    change wpAnyH _ _ _ _ _ _ _ (Act.put _ (some 40) _) _
    simp only [Act.put, List.setIfInBounds_toArray, List.set_cons_zero, List.set_cons_succ]
    refine wpAnyH_take (i := 10) (v := .int .i64 AT) rfl (by kernel_rfl) (by kernel_rfl) (by kernel_rfl) (fun _ _ _ h => h) (Or.inl ⟨by rfl, fun w hSw => by obtain ⟨c0, c1, c2, c3, c4⟩ := cfg_cells hSw.c; go_simp⟩) (by assumption) ?_
    change wpAnyH _ _ _ _ _ _ _ (Act.put _ (some 41) _) _
    simp only [Act.put, List.setIfInBounds_toArray, List.set_cons_zero, List.set_cons_succ]
    refine wpAnyH_ready (rs := [2]) (by kernel_rfl) (by simp) ?_
    refine AllReadyH.cons rfl (fun K hK => ?_) (AllReadyH.nil)
    · refine step_enter (F := 14) (vals := #[.pointer (some ⟨g, 0, none⟩), .int .i64 0, .agg #[.int .i64 W, .int .i64 S, .int .i64 B, .int .i64 T, .slice ad len cap]]) rfl (by kernel_rfl) ?_
      refine (lnew_any g 0 W S B T ad len cap f _ (Lib.hid K40.out.r) (by omega) hm).mono ?_
      rintro e y1 ⟨t, cb, rfl, t5, q3, q4, hb⟩
      have L5 : Hid (Ls w y1 N W S B T ad len cap f t g h cb 0 (MSt.fresh n)) := by
        have z1 := Q1.out
        have z2 := Q2.out
        have z3 := M40.out.lt
        have z4 := K40.out.lt
        have K5 := K40.out.next hb
        exact ⟨K5.c, hr.out, by first | exact K5.b | (rw [hN]; exact K5.b), t5, M40.out.next hb, hF.out, ⟨by omega, by omega, by omega, by omega, by omega⟩, ⟨by omega, by omega, by omega, by omega, by omega, by omega⟩⟩
      have K1 := Lib.hid (K40.out.next hb)
      clear t5 q3 q4 hb
      show K (Act.put _ (some 33) _) y1
      refine hK.out _ _ (K1.out) (fun hHeld1 => ?_)
      clear hK K
      simp only [Act.put, List.setIfInBounds_toArray, List.set_cons_zero, List.set_cons_succ]
      refine wpAnyH_take (i := 11) (v := .pointer (some ⟨t, 0, none⟩)) rfl (by kernel_rfl) (by kernel_rfl) (by kernel_rfl) (fun _ _ _ h => h) (Or.inl ⟨by rfl, fun w hSw => by obtain ⟨c0, c1, c2, c3, c4⟩ := cfg_cells hSw.c; go_simp⟩) (by assumption) ?_
      change wpAnyH _ _ _ _ _ _ _ (Act.put _ (some 8) _) _
      simp only [Act.put, List.setIfInBounds_toArray, List.set_cons_zero, List.set_cons_succ]
      refine wpAnyH_take (i := 12) (v := .int .i64 AT) rfl (by kernel_rfl) (by kernel_rfl) (by kernel_rfl) (fun _ _ _ h => h) (Or.inl ⟨by rfl, fun w hSw => by obtain ⟨c0, c1, c2, c3, c4⟩ := cfg_cells hSw.c; go_simp⟩) (by assumption) ?_
      change wpAnyH _ _ _ _ _ _ _ (Act.put _ (some 9) _) _
      simp only [Act.put, List.setIfInBounds_toArray, List.set_cons_zero, List.set_cons_succ]
      refine ⟨by kernel_rfl, ?_⟩
      refine NoPanic.normal ?_
      go_wp2_with fail
      go_meet
      case rel => exact ⟨t, cb, rfl, rfl, L5⟩
  case rest =>
    obtain ⟨t, cb, rfl, rfl, L6⟩ := hcut
    have TW : Hid (Tw (MSt.fresh n) 0 n S len (fun _ => none) 0) := Tw.fresh (by omega)
    clear K4 M4 Q1 Q2
    have hba := below_alloc wc (.cells #[.int .i64 0, .int .i64 0] 35)
    have X7 := Lib.hid (Two5.new wc 35 0 0)
    have L7 := Lib.hid (L6.out.next hba)
    have NX : Hid (wc.heap.size ≠ g ∧ wc.heap.size ≠ h ∧ wc.heap.size ≠ N ∧ wc.heap.size ≠ t ∧ wc.heap.size ≠ cb ∧ w.heap.size ≤ wc.heap.size) := ⟨by have := L6.out.lts; omega, by have := L6.out.lts; omega, by have := L6.out.lts; omega, by have := L6.out.lts; omega, by have := L6.out.lts; omega, L6.out.be.size⟩
    clear hba L6
    go_wp2_with fail
    generalize wc.alloc (.cells #[.int .i64 0, .int .i64 0] 35) = w7 at *
    generalize wc.heap.size = MX at *
    go_loopw [11, 45] (fun u11 u45 wr => ∃ (k : Nat) (s' : MSt) (q : Option (Int × Int)) (L' : Nat → Option (Int × Int)) (oo : Nat), k ≤ m ∧ u45 = .int .i64 (k : Nat) ∧ u11 = .bool (obT q) ∧ Hid (Ls w wr N W S B T ad len cap f t g h cb 0 (s')) ∧ Hid (Tw s' 0 n S len L' oo) ∧ Hid (oo ≤ 2 * k) ∧ Hid (L' j = q) ∧ Hid (∀ i, i ≠ j → L' i = none) ∧ Hid (Two5 wr MX 35 (oxT q) (oyT q))) (fun _ u45 _ => m - (intOf u45).toNat)
    case atStart => exact ⟨0, _, none, _, 0, by omega, rfl, rfl, L7, TW, Nat.le_refl _, rfl, Lib.hid (fun i hi => rfl), X7⟩
    case round =>
      obtain ⟨k, s', q, L', oo, hk, rfl, rfl, G0, T0, HO, LJ, LN, X0⟩ := hrel
      by_cases hlt : k < m
      · have l3 : (k : Int) < (m : Int) := by omega
        obtain ⟨ab, aoff, rfl, hcA, hcB⟩ := (hx.out.next G0.out.be).at hlt
        generalize X k = x at *
        generalize Y k = y at *
        have hba := below_alloc wr (.cells #[.int .i64 x, .int .i64 y] 35)
        have Y1 := Lib.hid (Two5.new wr 35 x y)
        have G1 := Lib.hid (G0.out.next hba)
        have X1 := Lib.hid (X0.out.next hba)
        have lX := X0.out.lt
        have NY : Hid (wr.heap.size ≠ g ∧ wr.heap.size ≠ h ∧ wr.heap.size ≠ MX ∧ wr.heap.size ≠ N) := ⟨by have := G0.out.lts; omega, by have := G0.out.lts; omega, by omega, by have := G0.out.lts; omega⟩
        clear hba G0 X0 lX
        go_upto_region 11 with fail
        clear hcA hcB
        generalize wr.alloc (.cells #[.int .i64 x, .int .i64 y] 35) = wr1 at *
        generalize wr.heap.size = MY at *
        obtain ⟨c0, c1, c2, c3, c4⟩ := cfg_cells G1.out.c
        obtain ⟨y0, y1⟩ := Y1.out.cells
        have SZ := Lib.hid fun w (hr : RowI w ad len f) => size13_any W S B T ad len cap f x y w (Lib.hid hr) (by omega)
        by_cases hmt : MayT S len x y
        · have ZN : Hid ((szT S len f x y == 0) = false) := by
            show _ = _
            rw [beq_eq_false_iff_ne]
            exact fun e => (szT_zero OK.out).1 e hmt
          have zn := ZN.out
          generalize szT S len f x y = V at *
          go_wp2_with fail
          refine (SZ.out _ G1.out.r).mono ?_
          rintro e w8 ⟨rfl, hb⟩
          have G2 := Lib.hid (G1.out.next hb)
          have X2 := Lib.hid (X1.out.next hb)
          have Y2 := Lib.hid (Y1.out.next hb)
          clear hb G1 X1 Y1 c0 c1 c2 c3 c4 y0 y1
          obtain ⟨y0, y1⟩ := Y2.out.cells
          have ho : s'.ops < 4611686018427387904 := by rw [T0.out.ops]; have := HO.out; omega
          have hf : s'.faults < 4611686018427387904 := by rw [T0.out.fl]; omega
          have NT := Lib.hid (T0.out.put 2 hjn (mayO_some hmt))
          have hle := T0.out.le
          go_wp2_with fail
          refine (G2.out.mark (by omega) (by omega) (by omega) OK.out ho hf (by omega) hjS.out HAT.out hmt).mono ?_
          rintro e w9 ⟨rfl, l1, o1⟩
          have n1' := NX.out
          have n2' := NY.out
          have G3 := Lib.hid l1
          have X3 : Hid (Two5 w9 MX 35 (oxT q) (oyT q)) := o1.at X2.out (by simp; omega)
          have Y3 : Hid (Two5 w9 MY 35 x y) := o1.at Y2.out (by simp; omega)
          clear l1 o1 G2 X2 Y2 y0 y1 ho hf T0
          rw [show wordT x y = encT (some (x, y)) from rfl] at G3
          have hP : (0 + j : Nat) < ((s'.begun 2 ((0 + j : Nat) : Int)).put ((0 + j : Nat) : Int) (encT (some (x, y)))).ws.length := by rw [lput_len]; omega
          generalize (s'.begun 2 ((0 + j : Nat) : Int)).put ((0 + j : Nat) : Int) (encT (some (x, y))) = s2' at *
          -- the last one's box
          have X4 := Lib.hid (X3.out.set x y)
          have OX : Hid (Only [MX] w9 ((w9.setCell ⟨MX, 0, none⟩ (.int .i64 x)).setCell ⟨MX, 1, none⟩ (.int .i64 y))) := (Only.of_set (l := [MX]) (g := MX) (j := 0) (by simp) _).trans (Only.of_set (g := MX) (j := 1) (by simp) _)
          have Y4 : Hid (Two5 ((w9.setCell ⟨MX, 0, none⟩ (.int .i64 x)).setCell ⟨MX, 1, none⟩ (.int .i64 y)) MY 35 x y) := OX.out.at Y3.out (by simp; omega)
          have G4 := Lib.hid (G3.out.other OX.out (by intro k hk; simp at hk; subst hk; omega))
          obtain ⟨y0, y1⟩ := Y3.out.cells
          obtain ⟨x0, x1⟩ := X3.out.cells
          have z0 := X3.out.fz 0
          have z1 := X3.out.fz 1
          go_upto_region 15 with fail
          generalize (w9.setCell ⟨MX, 0, none⟩ (.int .i64 x)).setCell ⟨MX, 1, none⟩ (.int .i64 y) = w10 at *
          clear G3 X3 Y3 OX x0 x1 z0 z1 y0 y1
          have ho : s2'.ops < 4611686018427387904 := by rw [NT.out.ops]; have := HO.out; omega
          have hf : s2'.faults < 4611686018427387904 := by rw [NT.out.fl]; omega
          have LKJ : Hid (setL L' j (some (x, y)) j = some (x, y)) := by show _ = _; simp [setL]
          have hrd := NT.out.rd hjn
          rw [LKJ.out] at hrd
          go_wp2_with fail
          refine (G4.out.look (by omega) (by omega) (by omega) OK.out ho hf (by omega) hjS.out HAT.out hrd (mayO_some hmt)).mono ?_
          rintro e w11 ⟨rfl, l1, o1⟩
          have G5 := Lib.hid l1
          have X5 : Hid (Two5 w11 MX 35 x y) := o1.at X4.out (by simp; omega)
          have Y5 : Hid (Two5 w11 MY 35 x y) := o1.at Y4.out (by simp; omega)
          have NU := Lib.hid (NT.out.look 1 hP)
          clear l1 o1 G4 X4 Y4 ho hf NT hrd hP
          generalize s2'.begun 1 ((0 + j : Nat) : Int) = s3' at *
          rw [show oxT (some (x, y)) = x from rfl, show oyT (some (x, y)) = y from rfl, show obT (some (x, y)) = true from rfl]
          have hba := below_alloc w11 (.cells #[.int .i64 x, .int .i64 y] 35)
          have Z6 := Lib.hid (Two5.new w11 35 x y)
          have G6 := Lib.hid (G5.out.next hba)
          have X6 := Lib.hid (X5.out.next hba)
          have Y6 := Lib.hid (Y5.out.next hba)
          clear hba G5 X5 Y5
          go_upto_region 16 with fail
          generalize w11.alloc (.cells #[.int .i64 x, .int .i64 y] 35) = w12 at *
          generalize w11.heap.size = MZ at *
          have ONE : Hid ((allL S len f (setL L' j (some (x, y))) n).length = 1) := allL_one LKJ.out hjn (fun i _ hi => by simp [setL, hi, LN.out i hi])
          have AL : Hid (Calls Tryd.prog 20 #[.pointer (some ⟨t, 0, none⟩)] w12 fun e w' => (∃ a c, e = .returned (.slice a 1 c)) ∧ Below w12.heap.size w12 w') := by
            refine (all13_any t g cb 0 h W S B T len f s3' n _ w12 (Lib.hid G6.out.tb) (Lib.hid G6.out.fl) (Lib.hid G6.out.m) (by omega) (by omega) (by omega) OK (by omega) HN.out (Lib.hid NU.out.lw)).mono ?_
            rintro e w' ⟨v, rfl, R, _, hb2⟩
            obtain ⟨a, c, rfl⟩ := ORow.form R
            rw [ONE.out]
            exact ⟨⟨a, c, rfl⟩, hb2⟩
          obtain ⟨y0, y1⟩ := Y6.out.cells
          obtain ⟨z0, z1⟩ := Z6.out.cells
          go_wp2_with fail
          refine AL.out.mono ?_
          rintro e w13 ⟨⟨av, cv, rfl⟩, hb⟩
          have G7 := Lib.hid (G6.out.next hb)
          have X7' := Lib.hid (X6.out.next hb)
          clear hb y0 y1 z0 z1
          go_wp2_with fail
          go_roundw
          case rel => exact ⟨k + 1, s3', some (x, y), _, _, by omega, by push_cast; rfl, rfl, G7, NU, by have := HO.out; show _ ≤ _; omega, LKJ, Lib.hid (fun i hi => by simp [setL, hi, LN.out i hi]), X7'⟩
          case measure => first | (simp [intOf]; done) | (simp [intOf]; omega)
        · have ZN : Hid (szT S len f x y = 0) := (szT_zero OK.out).2 hmt
          rw [ZN.out] at SZ
          go_wp2_with fail
          refine (SZ.out _ G1.out.r).mono ?_
          rintro e w8 ⟨rfl, hb⟩
          have G2 := Lib.hid (G1.out.next hb)
          have X2 := Lib.hid (X1.out.next hb)
          clear hb G1 X1 Y1 c0 c1 c2 c3 c4 y0 y1
          go_wp2_with fail
          go_roundw
          case rel => exact ⟨k + 1, s', q, L', oo, by omega, by push_cast; rfl, rfl, G2, T0, by have := HO.out; show _ ≤ _; omega, LJ, LN, X2⟩
          case measure => first | (simp [intOf]; done) | (simp [intOf]; omega)
      · obtain rfl : k = m := by omega
        have ho : s'.ops < 4611686018427387904 := by rw [T0.out.ops]; have := HO.out; omega
        have hf : s'.faults < 4611686018427387904 := by rw [T0.out.fl]; omega
        have hrd := T0.out.rd hjn
        have hmy := T0.out.may hjn
        rw [LJ.out] at hrd hmy
        have NT := Lib.hid (T0.out.put 3 hjn (q := none) mayO_none)
        rw [show encT none = 0 from rfl] at NT
        go_wp2_with fail
        refine (G0.out.take (by omega) (by omega) (by omega) OK.out ho hf (by omega) hjS.out HAT.out hrd hmy).mono ?_
        rintro e w8 ⟨rfl, l1, o1⟩
        have n1' := NX.out
        have G1 := Lib.hid l1
        have X1 : Hid (Two5 w8 MX 35 (oxT q) (oyT q)) := o1.at X0.out (by simp; omega)
        clear l1 o1 G0 X0 ho hf T0 hrd hmy LJ
        generalize oxT q = x at *
        generalize oyT q = y at *
        generalize obT q = bb at *
        generalize (s'.begun 3 ((0 + j : Nat) : Int)).put ((0 + j : Nat) : Int) 0 = s2' at *
        have hba := below_alloc w8 (.cells #[.int .i64 x, .int .i64 y] 35)
        have Z6 := Lib.hid (Two5.new w8 35 x y)
        have G6 := Lib.hid (G1.out.next hba)
        have X6 := Lib.hid (X1.out.next hba)
        clear hba G1 X1
        go_upto_region 20 with fail
        generalize w8.alloc (.cells #[.int .i64 x, .int .i64 y] 35) = w12 at *
        generalize w8.heap.size = MZ at *
        have EMP : Hid (allL S len f (setL L' j none) n = []) := allL_none fun i _ => by
          by_cases e : i = j
          · subst e; simp [setL]
          · simp [setL, e, LN.out i e]
        have AL : Hid (Calls Tryd.prog 20 #[.pointer (some ⟨t, 0, none⟩)] w12 fun e w' => (∃ a c, e = .returned (.slice a 0 c)) ∧ Below w12.heap.size w12 w') := by
          refine (all13_any t g cb 0 h W S B T len f s2' n _ w12 (Lib.hid G6.out.tb) (Lib.hid G6.out.fl) (Lib.hid G6.out.m) (by omega) (by omega) (by omega) OK (by omega) HN.out (Lib.hid NT.out.lw)).mono ?_
          rintro e w' ⟨v, rfl, R, _, hb2⟩
          rw [EMP.out] at R
          obtain ⟨a, c, rfl⟩ := ORow.form R
          exact ⟨⟨a, c, rfl⟩, hb2⟩
        obtain ⟨x0, x1⟩ := X6.out.cells
        obtain ⟨z0, z1⟩ := Z6.out.cells
        go_wp2_with fail
        refine AL.out.mono ?_
        rintro e w13 ⟨⟨av, cv, rfl⟩, hb⟩
        have G7 := Lib.hid (G6.out.next hb)
        clear hb
        go_wp2_with fail
        go_ret
        exact ⟨rfl, by first | exact G7.out.be | (rw [hN]; exact G7.out.be)⟩
theorem moves_walk (W S B T : Int) (ad : Option Addr) (len cap : Nat) (f : Nat → Int) (G : Nat) (a : Option Addr) (m c : Nat) (X Y : Nat → Int) (w : World) (hG : G < 65536) (hr : RowI w ad len f) (hl : len < 9223372036854775808) (hF : FldL w) (hx : RowTh w a m X Y) :
    Calls Tryd.prog 7 #[.agg #[.int .i64 W, .int .i64 S, .int .i64 B, .int .i64 T, .slice ad len cap], .int .u16 (G : Nat), .slice a m c] w fun e w' => e = .returned (.bool true) ∧ Below w.heap.size w w' := by
  rcases h : mayB W S B T len f with _ | _
  · exact moves_no W S B T ad len cap f G a m c w (Lib.hid hr) hl (Lib.hid hF) (Lib.hid h)
  · by_cases hmm : 60 < m
    · exact moves_many W S B T ad len cap f G a m c w (Lib.hid hr) hl (Lib.hid hF) (Lib.hid h) hmm
    · exact moves_yes W S B T ad len cap f G a m c X Y hG w (Lib.hid hr) hl (Lib.hid hF) (Lib.hid hx) (Lib.hid h) (by omega)
end Go.Proofs.YtchkgmknhndccaaDoor
