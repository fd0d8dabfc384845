/-
  The walk of the statement HeartBack: all blocks of a class that can be had, and come back, leave all superblocks free; they are as many as there is room for.
-/
import Derived.Test.YtcgjmigdpilgpaaDoorHeart9
import Derived.Test.YtcgjmigdpilgpaaDoorHeart11
import Derived.Test.YtcgjmigdpilgpaaDoorHeartBM
import Derived.Test.YtcgjmigdpilgpaaDoorHeartS
import Derived.Test.YtcgjmigdpilgpaaDoorArena4
namespace Go.Proofs.YtcgjmigdpilgpaaDoor
open Go.RowKit Go.Sort Go.Shelf

set_option maxRecDepth 20000 in
set_option maxHeartbeats 4000000 in
theorem hback_yes (W T : Int) (S B : Nat) (ad : Option Addr) (len cap : Nat) (f : Nat → Int) (cl : Nat) (w : World) (hr : Hid (RowI w ad len f)) (hl : len < 9223372036854775808) (hc : cl < 256) (hF : Hid (FldAt w)) (hm : Hid (mayB W S B T len f = true)) :
    Calls Tryd.prog 6 #[.agg #[.int .i64 W, .int .i64 (S : Nat), .int .i64 (B : Nat), .int .i64 T, .slice ad len cap], .int .u8 (cl : Nat)] w fun e w' => e = .returned (.bool true) ∧ Below w.heap.size w w' := by
  obtain ⟨kc, hkc, hkl⟩ : ∃ kc : Nat, (cl : Int) % (len : Int) = (kc : Int) ∧ (1 ≤ len → kc < len) := ⟨cl % len, by simp, fun h => Nat.mod_lt _ h⟩
  have K0 : Hid (Ar w (w.alloc (.cells #[.int .i64 W, .int .i64 (S : Nat), .int .i64 (B : Nat), .int .i64 T, .slice ad len cap] 24)) w.heap.size W (S : Nat) (B : Nat) T ad len cap f) := Ar.start hr.out
  have F0 := Lib.hid (hF.out.next (box1 w (.cells #[.int .i64 W, .int .i64 (S : Nat), .int .i64 (B : Nat), .int .i64 T, .slice ad len cap] 24)))
  obtain ⟨⟨w1, w2⟩, ⟨s1, s2⟩, ⟨b1, b2⟩, ⟨t1, t2⟩, ⟨l1, l2⟩, hcls⟩ := may_nums hm.out
  have OK := Lib.hid (cls_ok hcls)
  clear hcls w1 w2 t1 t2
  have L3 : 3 ≤ w.heap.size := hF.out.tab.lt
  go_enter Tryd.func6, Tryd.ntmps6
  go_wp2_with fail
  generalize w.alloc (.cells #[.int .i64 W, .int .i64 (S : Nat), .int .i64 (B : Nat), .int .i64 T, .slice ad len cap] 24) = w0 at *
  generalize hM : w.heap.size = M at *
  refine (speaks11 _ F0).mono ?_
  rintro e wa ⟨rfl, hb⟩
  have K1 := Lib.hid (K0.out.next hb)
  clear hb K0 F0
  obtain ⟨c0, c1, c2, c3, c4⟩ := cfg_cells K1.out.c
  go_wp2_with fail
  refine (rmay_any W (S : Nat) (B : Nat) T ad len cap f _ (Lib.hid K1.out.r) hl).mono ?_
  rintro e wb ⟨he, hb⟩
  obtain rfl : e = .returned (.bool true) := by rw [he, hm.out]
  have K2 := Lib.hid (K1.out.next hb)
  clear hb K1 c0 c1 c2 c3 c4 he
  obtain ⟨c0, c1, c2, c3, c4⟩ := cfg_cells K2.out.c
  have hl1 : (len : Int) ≠ 0 := by omega
  have hl0 : ¬ len = 0 := by omega
  have wcl : IntKind.i64.wrap (cl : Int) = (cl : Int) := by rw [IntKind.wrap_i64]; omega
  have htm : (cl : Int).tmod (len : Int) = (kc : Int) := by rw [Int.tmod_eq_emod_of_nonneg (by omega)]; exact hkc
  go_upto_region 5 with fail
  clear c0 c1 c2 c3 c4
  go_cut [5, 6] (fun u5 u6 wx => ∃ N cb, u5 = .pointer (some ⟨N, 0, none⟩) ∧ u6 = .int .i64 (kc : Nat) ∧ Hid (Sc0 w wx M N cb W T S B len ad cap f))
  case first =>
    refine wp_region_noPanic ?_
    refine wp_region_held_drew (S := fun w' => Cfg5 w' M W (S : Nat) (B : Nat) T (.slice ad len cap)) (by kernel_rfl) K2.out.c (fun hHeld => ?_)
    have K3 := Lib.hid K2.out.drew
    clear K2
    generalize wb.drew = z at *
    refine wpAnyH_take (i := 0) (v := .agg #[.int .i64 W, .int .i64 (S : Nat), .int .i64 (B : Nat), .int .i64 T, .slice ad len cap]) rfl (by kernel_rfl) (by kernel_rfl) (by kernel_rfl) (fun _ _ _ h => h) (Or.inl ⟨by rfl, fun w hSw => by obtain ⟨c0, c1, c2, c3, c4⟩ := cfg_cells hSw; first | (go_simp; done) | (go_simp; exact wcl) | (go_simp; rw [if_neg hl0, htm]; done) | (go_simp; rfl)⟩) (by assumption) ?_
    change wpAnyH _ _ _ _ _ _ _ (Act.put _ (some 18) _) _
    simp only [Act.put, List.setIfInBounds_toArray, List.set_cons_zero, List.set_cons_succ]
    refine wpAnyH_take (i := 2) (v := .int .u8 (cl : Nat)) rfl (by kernel_rfl) (by kernel_rfl) (by kernel_rfl) (fun _ _ _ h => h) (Or.inl ⟨by rfl, fun w hSw => by obtain ⟨c0, c1, c2, c3, c4⟩ := cfg_cells hSw; first | (go_simp; done) | (go_simp; exact wcl) | (go_simp; rw [if_neg hl0, htm]; done) | (go_simp; rfl)⟩) (by assumption) ?_
    change wpAnyH _ _ _ _ _ _ _ (Act.put _ (some 20) _) _
    simp only [Act.put, List.setIfInBounds_toArray, List.set_cons_zero, List.set_cons_succ]
    refine wpAnyH_take (i := 3) (v := .int .i64 (cl : Nat)) rfl (by kernel_rfl) (by kernel_rfl) (by kernel_rfl) (fun _ _ _ h => h) (Or.inl ⟨by rfl, fun w hSw => by obtain ⟨c0, c1, c2, c3, c4⟩ := cfg_cells hSw; first | (go_simp; done) | (go_simp; exact wcl) | (go_simp; rw [if_neg hl0, htm]; done) | (go_simp; rfl)⟩) (by assumption) ?_
    change wpAnyH _ _ _ _ _ _ _ (Act.put _ (some 21) _) _
    simp only [Act.put, List.setIfInBounds_toArray, List.set_cons_zero, List.set_cons_succ]
    refine wpAnyH_take (i := 4) (v := .pointer (some ⟨M, 4, none⟩)) rfl (by kernel_rfl) (by kernel_rfl) (by kernel_rfl) (fun _ _ _ h => h) (Or.inl ⟨by rfl, fun w hSw => by obtain ⟨c0, c1, c2, c3, c4⟩ := cfg_cells hSw; first | (go_simp; done) | (go_simp; exact wcl) | (go_simp; rw [if_neg hl0, htm]; done) | (go_simp; rfl)⟩) (by assumption) ?_
    change wpAnyH _ _ _ _ _ _ _ (Act.put _ (some 22) _) _
    simp only [Act.put, List.setIfInBounds_toArray, List.set_cons_zero, List.set_cons_succ]
    refine wpAnyH_take (i := 5) (v := .slice ad len cap) rfl (by kernel_rfl) (by kernel_rfl) (by kernel_rfl) (fun _ _ _ h => h) (Or.inl ⟨by rfl, fun w hSw => by obtain ⟨c0, c1, c2, c3, c4⟩ := cfg_cells hSw; first | (go_simp; done) | (go_simp; exact wcl) | (go_simp; rw [if_neg hl0, htm]; done) | (go_simp; rfl)⟩) (by assumption) ?_
    change wpAnyH _ _ _ _ _ _ _ (Act.put _ (some 23) _) _
    simp only [Act.put, List.setIfInBounds_toArray, List.set_cons_zero, List.set_cons_succ]
    refine wpAnyH_take (i := 6) (v := .int .i64 (len : Nat)) rfl (by kernel_rfl) (by kernel_rfl) (by kernel_rfl) (fun _ _ _ h => h) (Or.inl ⟨by rfl, fun w hSw => by obtain ⟨c0, c1, c2, c3, c4⟩ := cfg_cells hSw; first | (go_simp; done) | (go_simp; exact wcl) | (go_simp; rw [if_neg hl0, htm]; done) | (go_simp; rfl)⟩) (by assumption) ?_
    change wpAnyH _ _ _ _ _ _ _ (Act.put _ (some 24) _) _
    simp only [Act.put, List.setIfInBounds_toArray, List.set_cons_zero, List.set_cons_succ]
    refine wpAnyH_take (i := 7) (v := .int .i64 (kc : Nat)) rfl (by kernel_rfl) (by kernel_rfl) (by kernel_rfl) (fun _ _ _ h => h) (Or.inl ⟨by rfl, fun w hSw => by obtain ⟨c0, c1, c2, c3, c4⟩ := cfg_cells hSw; first | (go_simp; done) | (go_simp; exact wcl) | (go_simp; rw [if_neg hl0, htm]; done) | (go_simp; rfl)⟩) (by assumption) ?_
    change wpAnyH _ _ _ _ _ _ _ (Act.put _ (some 25) _) _
    simp only [Act.put, List.setIfInBounds_toArray, List.set_cons_zero, List.set_cons_succ]
    refine wpAnyH_ready (rs := [1, 8]) (by kernel_rfl) (by simp) ?_
    refine AllReadyH.cons rfl (fun K hK => ?_) (AllReadyH.cons rfl (fun K hK => ?_) (AllReadyH.nil))
    · have KK := K3
      refine step_enter (F := 16) (vals := #[.agg #[.int .i64 W, .int .i64 (S : Nat), .int .i64 (B : Nat), .int .i64 T, .slice ad len cap]]) rfl (by kernel_rfl) ?_
      refine (hnew_any W (S : Nat) (B : Nat) T ad len cap f _ (Lib.hid KK.out.r) (by omega)).mono ?_
      rintro e y1 ⟨cb, rfl, n1, n2, hb⟩
      have K4 := Lib.hid (K3.out.next hb)
      have E1 := Lib.hid n1
      have E2 : Hid (z.heap.size ≤ cb) := n2
      have E3 := Lib.hid hb.size
      clear n1 n2 hb KK
      show K (Act.put _ (some 19) _) y1
      refine hK.out _ _ K4.out.c (fun hHeld1 => ?_)
      clear hK K
      refine wpAnyH_ready (rs := [8]) (by kernel_rfl) (by simp) ?_
      refine AllReadyH.cons rfl (fun K hK => ?_) AllReadyH.nil
      refine step_value (v := .pointer (some ⟨y1.heap.size, 0, none⟩)) (w' := y1.alloc (.cells #[.int .i64 0, .int .i64 0, .int .i64 0, .int .i64 0, .slice none 0 0] 29)) rfl (by kernel_rfl) ?_
      have hb := box1 y1 (.cells #[.int .i64 0, .int .i64 0, .int .i64 0, .int .i64 0, .slice none 0 0] 29)
      have K5 := Lib.hid (K4.out.next hb)
      have E4 := Lib.hid ((hb.block cb (heap_lt E1.out)).trans E1.out)
      have Z : Hid (HBox _ y1.heap.size 0 0 0 0 (.slice none 0 0)) := heap_new y1 (.cells #[.int .i64 0, .int .i64 0, .int .i64 0, .int .i64 0, .slice none 0 0] 29)
      have cl1 := heap_lt E1.out
      have cl2 := cfg_lt K3.out.c
      have cl3 := E2.out
      have cl4 := E3.out
      clear hb
      generalize y1.alloc (.cells #[.int .i64 0, .int .i64 0, .int .i64 0, .int .i64 0, .slice none 0 0] 29) = y2 at *
      generalize hNb : y1.heap.size = Nb at *
      show K (Act.put _ (some 5) _) y2
      refine hK.out _ _ K5.out.c (fun hHeld2 => ?_)
      clear hK K
      refine wpAnyH_ready (rs := [9]) (by kernel_rfl) (by simp) ?_
      refine AllReadyH.cons rfl (fun K hK => ?_) AllReadyH.nil
      have z0 := Z.out.c0
      have z1 := Z.out.c1
      have z2 := Z.out.c2
      have z3 := Z.out.c3
      have z4 := Z.out.c4
      have f0 := fun j => frozen_of (j := j) Z.out
      have NE := (show w.heap.size ≤ M ∧ w.heap.size ≤ Nb ∧ w.heap.size ≤ cb ∧ M ≠ Nb ∧ M ≠ cb ∧ Nb ≠ cb from by omega)
      have SC : Hid (Sc0 w (((((y2.setCell ⟨Nb, 0, none⟩ (.int .i64 W)).setCell ⟨Nb, 1, none⟩ (.int .i64 (S : Nat))).setCell ⟨Nb, 2, none⟩ (.int .i64 (B : Nat))).setCell ⟨Nb, 3, none⟩ (.int .i64 T)).setCell ⟨Nb, 4, none⟩ (.slice (some ⟨cb, 0, none⟩) len len)) M Nb cb W T S B len ad cap f) := by
        refine ⟨?_, set_of (set_of (set_of (set_of (set_of Z.out _) _) _) _) _, ?_, ?_, NE⟩
        · show _ = _; rw [set_other (by omega), set_other (by omega), set_other (by omega), set_other (by omega), set_other (by omega)]; exact K5.out.c
        · rw [set_other (by omega), set_other (by omega), set_other (by omega), set_other (by omega), set_other (by omega)]; exact E4.out
        · exact below_set (below_set (below_set (below_set (below_set (by rw [hM]; exact K5.out.b) (by omega)) (by omega)) (by omega)) (by omega)) (by omega)
      go_simp
      refine hK.out _ _ SC.out.cfg (fun hHeldS => ?_)
      clear hK K z0 z1 z2 z3 z4 f0
      refine wpAnyH_take (i := 10) (v := .int .i64 (kc : Nat)) rfl (by kernel_rfl) (by kernel_rfl) (by kernel_rfl) (fun _ _ _ h => h) (Or.inl ⟨by rfl, fun w hSw => by obtain ⟨c0, c1, c2, c3, c4⟩ := cfg_cells hSw; first | (go_simp; done) | (go_simp; exact wcl) | (go_simp; rw [if_neg hl0, htm]; done) | (go_simp; rfl)⟩) (by assumption) ?_
      change wpAnyH _ _ _ _ _ _ _ (Act.put _ (some 6) _) _
      simp only [Act.put, List.setIfInBounds_toArray, List.set_cons_zero, List.set_cons_succ]
      refine ⟨by kernel_rfl, ?_⟩
      refine NoPanic.normal ?_
      go_wp2_with fail
      go_meet
      case rel => exact ⟨Nb, cb, rfl, rfl, SC⟩
    · refine step_value (v := .pointer (some ⟨z.heap.size, 0, none⟩)) (w' := z.alloc (.cells #[.int .i64 0, .int .i64 0, .int .i64 0, .int .i64 0, .slice none 0 0] 29)) rfl (by kernel_rfl) ?_
      have hb := box1 z (.cells #[.int .i64 0, .int .i64 0, .int .i64 0, .int .i64 0, .slice none 0 0] 29)
      have K4 := Lib.hid (K3.out.next hb)
      have Z0 : Hid (HBox _ z.heap.size 0 0 0 0 (.slice none 0 0)) := heap_new z (.cells #[.int .i64 0, .int .i64 0, .int .i64 0, .int .i64 0, .slice none 0 0] 29)
      have cl2 := cfg_lt K3.out.c
      have cl5 : (z.alloc (.cells #[.int .i64 0, .int .i64 0, .int .i64 0, .int .i64 0, .slice none 0 0] 29)).heap.size = z.heap.size + 1 := by simp
      clear hb
      generalize z.alloc (.cells #[.int .i64 0, .int .i64 0, .int .i64 0, .int .i64 0, .slice none 0 0] 29) = y0 at *
      generalize hNb : z.heap.size = Nb at *
      show K (Act.put _ (some 5) _) y0
      refine hK.out _ _ K4.out.c (fun hHeld1 => ?_)
      clear hK K
      refine wpAnyH_ready (rs := [1]) (by kernel_rfl) (by simp) ?_
      refine AllReadyH.cons rfl (fun K hK => ?_) AllReadyH.nil
      have KK := K4
      refine step_enter (F := 16) (vals := #[.agg #[.int .i64 W, .int .i64 (S : Nat), .int .i64 (B : Nat), .int .i64 T, .slice ad len cap]]) rfl (by kernel_rfl) ?_
      refine (hnew_any W (S : Nat) (B : Nat) T ad len cap f _ (Lib.hid KK.out.r) (by omega)).mono ?_
      rintro e y1 ⟨cb, rfl, n1, n2, hb⟩
      have K5 := Lib.hid (K4.out.next hb)
      have Z := Lib.hid (Z0.out.next hb)
      have E4 := Lib.hid n1
      have cl3 := n2
      clear n1 n2 hb KK
      show K (Act.put _ (some 19) _) y1
      refine hK.out _ _ K5.out.c (fun hHeld2 => ?_)
      clear hK K
      refine wpAnyH_ready (rs := [9]) (by kernel_rfl) (by simp) ?_
      refine AllReadyH.cons rfl (fun K hK => ?_) AllReadyH.nil
      have z0 := Z.out.c0
      have z1 := Z.out.c1
      have z2 := Z.out.c2
      have z3 := Z.out.c3
      have z4 := Z.out.c4
      have f0 := fun j => frozen_of (j := j) Z.out
      have NE := (show w.heap.size ≤ M ∧ w.heap.size ≤ Nb ∧ w.heap.size ≤ cb ∧ M ≠ Nb ∧ M ≠ cb ∧ Nb ≠ cb from by omega)
      have SC : Hid (Sc0 w (((((y1.setCell ⟨Nb, 0, none⟩ (.int .i64 W)).setCell ⟨Nb, 1, none⟩ (.int .i64 (S : Nat))).setCell ⟨Nb, 2, none⟩ (.int .i64 (B : Nat))).setCell ⟨Nb, 3, none⟩ (.int .i64 T)).setCell ⟨Nb, 4, none⟩ (.slice (some ⟨cb, 0, none⟩) len len)) M Nb cb W T S B len ad cap f) := by
        refine ⟨?_, set_of (set_of (set_of (set_of (set_of Z.out _) _) _) _) _, ?_, ?_, NE⟩
        · show _ = _; rw [set_other (by omega), set_other (by omega), set_other (by omega), set_other (by omega), set_other (by omega)]; exact K5.out.c
        · rw [set_other (by omega), set_other (by omega), set_other (by omega), set_other (by omega), set_other (by omega)]; exact E4.out
        · exact below_set (below_set (below_set (below_set (below_set (by rw [hM]; exact K5.out.b) (by omega)) (by omega)) (by omega)) (by omega)) (by omega)
      go_simp
      refine hK.out _ _ SC.out.cfg (fun hHeldS => ?_)
      clear hK K z0 z1 z2 z3 z4 f0
      refine wpAnyH_take (i := 10) (v := .int .i64 (kc : Nat)) rfl (by kernel_rfl) (by kernel_rfl) (by kernel_rfl) (fun _ _ _ h => h) (Or.inl ⟨by rfl, fun w hSw => by obtain ⟨c0, c1, c2, c3, c4⟩ := cfg_cells hSw; first | (go_simp; done) | (go_simp; exact wcl) | (go_simp; rw [if_neg hl0, htm]; done) | (go_simp; rfl)⟩) (by assumption) ?_
      change wpAnyH _ _ _ _ _ _ _ (Act.put _ (some 6) _) _
      simp only [Act.put, List.setIfInBounds_toArray, List.set_cons_zero, List.set_cons_succ]
      refine ⟨by kernel_rfl, ?_⟩
      refine NoPanic.normal ?_
      go_wp2_with fail
      go_meet
      case rel => exact ⟨Nb, cb, rfl, rfl, SC⟩
  case rest =>
    obtain ⟨N, cb, rfl, rfl, C5⟩ := hcut
    have d0 := C5.out.box.c0
    have d1 := C5.out.box.c1
    have d2 := C5.out.box.c2
    have d3 := C5.out.box.c3
    have d4 := C5.out.box.c4
    have WO : Hid (∀ w, Calls Tryd.prog 18 #[.agg #[.int .i64 W, .int .i64 (S : Nat), .int .i64 (B : Nat), .int .i64 T, .slice (some ⟨cb, 0, none⟩) len len]] w fun e w' => e = .returned (.int .i64 ((2 * S : Nat) : Int)) ∧ Below w.heap.size w w') := fun w => (hwords_any W (S : Nat) (B : Nat) T _ w (by omega) (by omega)).mono fun _ _ h => ⟨h.1, h.2⟩
    go_wp2_with fail
    refine (WO.out _).mono ?_
    rintro e we ⟨rfl, hb⟩
    have C6 := Lib.hid (C5.out.next hb)
    clear hb WO d0 d1 d2 d3 d4 C5
    obtain ⟨i0, hi, hz0, hz1, hz2⟩ := info_parts info64
    go_wp2_with (at_make; refine wpList_make_full _ rfl _ _ 33 rfl 0 35 i0 (.int .u64 0) 1 Tryd.underlying33 hi hz0 hz1 .i64 .i64 _ _ (2 * S) rfl rfl (by omega) (by omega) (by rw [hz2]; omega) (by unfold maxLen; omega) (Nat.zero_le _) ?_)
    intro w5 ho hg
    have BG := grown_below hg rfl
    have K5 : Hid (Su w w5 M N we.heap.size cb W T S B len ad cap f (List.replicate S Sb.none)) := C6.out.su (by omega) hF.out BG (Nat.le_refl _) (hw_new ho (by omega)) OK.out (by omega)
    clear ho hg BG hi hz0 hz1 hz2 C6
    generalize we.heap.size = b at *
    have hkl2 : kc < len := hkl (by omega)
    have hcp : 1 ≤ capN len f kc ∧ capN len f kc ≤ 64 := by
      refine ⟨?_, capN_le OK.out kc⟩
      rcases szI_bd (k := (kc : Int)) OK.out with h | h
      · rw [szI_nat hkl2] at h
        have h2 := OK.out.lo kc hkl2
        omega
      · unfold capN capI
        rw [if_neg (by omega)]
        have : 1 ≤ 1024 / szI len f (kc : Int) := Int.le_ediv_of_mul_le (by omega) (by omega)
        omega
    rw [← stOf_nil S kc (Ma.lowN (capN len f kc))] at K5
    generalize hLOW : Ma.lowN (capN len f kc) = LOW at *
    have CFGc := cfg_cells K5.out.cfg
    obtain ⟨c0, c1, c2, c3, c4⟩ := CFGc
    go_wp2_with fail
    clear c0 c1 c2 c3 c4
    go_loopw [8, 9, 33] (fun u8 u9 u33 wr => ∃ r : List (Nat × Nat), u33 = .int .i64 (r.length : Nat) ∧ u9 = .int .i64 (cntA r : Nat) ∧ Hid (Well S LOW r) ∧ Hid (Su w wr M N b cb W T S B len ad cap f (stOf S kc LOW r)) ∧ Hid (Or w wr u8 r M N b cb)) (fun _ _ u33 _ => 64 * S + 1 - (intOf u33).toNat)
    case atStart =>
      exact ⟨[], rfl, rfl, trivial, K5, Or.nil⟩
    case round =>
      obtain ⟨r, rfl, rfl, WL, G, E⟩ := hrel
      have hcl := cnt_le (S := S) hcp.2 (by rw [hLOW]; exact WL.out)
      have hll := len_cnt WL.out
      have hmul : S * capN len f kc ≤ 64 * S := by rw [Nat.mul_comm]; exact Nat.mul_le_mul_right _ hcp.2
      have l3 : (r.length : Int) < 64 * (S : Int) + 1 := by omega
      obtain ⟨c0, c1, c2, c3, c4⟩ := cfg_cells G.out.cfg
      have d0 := G.out.sp.box.c0
      have d1 := G.out.sp.box.c1
      have d2 := G.out.sp.box.c2
      have d3 := G.out.sp.box.c3
      have d4 := G.out.sp.box.c4
      have hAQ : askA 1 ((kc : Nat) : Int) = 1 + 256 * kc ∧ askB ((kc : Nat) : Int) 0 = 0 := by
        unfold askA askB
        rw [if_pos (by omega), if_pos (by omega)]
        simp
      obtain ⟨AQ, hA1⟩ : ∃ AQ, 1 + 256 * kc = AQ := ⟨_, rfl⟩
      have RF : Hid (∀ y, FldAt y → Calls Tryd.prog 22 #[.int .i64 ((kc : Nat) : Int)] y fun e y' => e = .returned (.agg #[.int .u64 (AQ : Nat), .int .u64 0]) ∧ Below y.heap.size y y') := fun y h => by
        have := refillOp_any ((kc : Nat) : Int) y (by omega) (by omega) (Lib.hid h)
        rw [hAQ.1, hAQ.2, hA1] at this
        exact this
      have hAP : appP (capN len f) B (stOf S kc LOW r) (AQ, 0) = refillP (capN len f) B (stOf S kc LOW r) kc := by
        rw [app1 (by omega) (by omega), show AQ / 256 = kc from by omega]
      have RS0 := refill_st (cap := capN len f) (batch := B) (S := S) (C := kc) (r := r) hcp (by omega) (by rw [hLOW]; exact WL.out)
      rw [hLOW] at RS0
      rcases RS0 with ⟨⟨A, D⟩, e1, WL2, _⟩ | ⟨e1, hfull⟩
      · rw [e1] at hAP
        have WL3 := Lib.hid WL2
        have AP : Hid (∀ y, Su w y M N b cb W T S B len ad cap f (stOf S kc LOW r) → Calls Tryd.prog 21 #[.agg #[.int .i64 W, .int .i64 (S : Nat), .int .i64 (B : Nat), .int .i64 T, .slice (some ⟨cb, 0, none⟩) len len], .slice (some ⟨b, 0, none⟩) (2 * S) (2 * S), .agg #[.int .u64 (AQ : Nat), .int .u64 0]] y fun e y' => e = .returned (.agg #[.int .u64 (A : Nat), .int .u64 (D : Nat)]) ∧ Su w y' M N b cb W T S B len ad cap f (stOf S kc LOW (r ++ [(A, D)])) ∧ Only [b] y y') := fun y h => by
          have := h.apply (A := AQ) (D := 0) (c := 2 * S) (by omega) (by decide)
          rw [hAP] at this
          exact this
        clear hAP hAQ hA1 e1 WL2
        go_upto_region 11 with fail
        go_cut [10] (fun u10 wx => ∃ nb, u10 = .pointer (some ⟨nb, 0, none⟩) ∧ Hid (Su w wx M N b cb W T S B len ad cap f (stOf S kc LOW (r ++ [(A, D)]))) ∧ Hid (Bx w wx nb A D N b cb ∧ nb ≠ M ∧ ∀ q, u8.ownBlock = some q → q ≠ nb) ∧ Hid (Or w wx u8 r M N b cb))
        case first =>
          refine wp_region_noPanic ?_
          refine wp_region_held_drew (S := fun w' => HBox w' N W (S : Nat) (B : Nat) T (.slice (some ⟨cb, 0, none⟩) len len)) (by kernel_rfl) (G.out.sp.box) (fun hHeld => ?_)
          have DR := (Below.refl wr.heap.size wr).drew
          have G0 := Lib.hid (G.out.next DR)
          have E0 := Lib.hid (E.out.next DR)
          clear DR
          generalize wr.drew = z0 at *
          refine wpAnyH_take (i := 0) (v := .agg #[.int .i64 W, .int .i64 (S : Nat), .int .i64 (B : Nat), .int .i64 T, .slice (some ⟨cb, 0, none⟩) len len]) rfl (by kernel_rfl) (by kernel_rfl) (by kernel_rfl) (fun _ _ _ h => h) (Or.inl ⟨by rfl, fun w hSw => by have c0 := HBox.c0 hSw; have c1 := HBox.c1 hSw; have c2 := HBox.c2 hSw; have c3 := HBox.c3 hSw; have c4 := HBox.c4 hSw; go_simp⟩) (by assumption) ?_
          change wpAnyH _ _ _ _ _ _ _ (Act.put _ (some 35) _) _
          simp only [Act.put, List.setIfInBounds_toArray, List.set_cons_zero, List.set_cons_succ]
          refine wpAnyH_take (i := 1) (v := .slice (some ⟨b, 0, none⟩) (2 * S) (2 * S)) rfl (by kernel_rfl) (by kernel_rfl) (by kernel_rfl) (fun _ _ _ h => h) (Or.inl ⟨by rfl, fun w hSw => by have c0 := HBox.c0 hSw; have c1 := HBox.c1 hSw; have c2 := HBox.c2 hSw; have c3 := HBox.c3 hSw; have c4 := HBox.c4 hSw; go_simp⟩) (by assumption) ?_
          change wpAnyH _ _ _ _ _ _ _ (Act.put _ (some 36) _) _
          simp only [Act.put, List.setIfInBounds_toArray, List.set_cons_zero, List.set_cons_succ]
          refine wpAnyH_take (i := 2) (v := .int .i64 (kc : Nat)) rfl (by kernel_rfl) (by kernel_rfl) (by kernel_rfl) (fun _ _ _ h => h) (Or.inl ⟨by rfl, fun w hSw => by have c0 := HBox.c0 hSw; have c1 := HBox.c1 hSw; have c2 := HBox.c2 hSw; have c3 := HBox.c3 hSw; have c4 := HBox.c4 hSw; go_simp⟩) (by assumption) ?_
          change wpAnyH _ _ _ _ _ _ _ (Act.put _ (some 37) _) _
          simp only [Act.put, List.setIfInBounds_toArray, List.set_cons_zero, List.set_cons_succ]
          refine wpAnyH_ready (rs := [3, 5]) (by kernel_rfl) (by simp) ?_
          refine AllReadyH.cons rfl (fun K hK => ?_) (AllReadyH.cons rfl (fun K hK => ?_) (AllReadyH.nil))
          · refine step_enter (F := 22) (vals := #[.int .i64 (kc : Nat)]) rfl (by kernel_rfl) ?_
            refine (RF.out _ G0.out.sp.fl).mono ?_
            rintro e y2 ⟨rfl, hb⟩
            have G2 := Lib.hid (G0.out.next hb)
            have E2 := Lib.hid (E0.out.next hb)
            clear hb
            show K (Act.put _ (some 38) _) y2
            refine hK.out _ _ (G2.out.sp.box) (fun _ => ?_)
            clear hK K
            refine wpAnyH_ready (rs := [4, 5]) (by kernel_rfl) (by simp) ?_
            refine AllReadyH.cons rfl (fun K hK => ?_) (AllReadyH.cons rfl (fun K hK => ?_) (AllReadyH.nil))
            · refine step_enter (F := 21) (vals := #[.agg #[.int .i64 W, .int .i64 (S : Nat), .int .i64 (B : Nat), .int .i64 T, .slice (some ⟨cb, 0, none⟩) len len], .slice (some ⟨b, 0, none⟩) (2 * S) (2 * S), .agg #[.int .u64 (AQ : Nat), .int .u64 0]]) rfl (by kernel_rfl) ?_
              refine (AP.out _ G2.out).mono ?_
              rintro e y4 ⟨rfl, hg, ho⟩
              have G4 := Lib.hid hg
              have E4 := Lib.hid (E2.out.stayB ho)
              clear hg ho
              show K (Act.put _ (some 39) _) y4
              refine hK.out _ _ (G4.out.sp.box) (fun _ => ?_)
              clear hK K
              refine wpAnyH_ready (rs := [5]) (by kernel_rfl) (by simp) ?_
              refine AllReadyH.cons rfl (fun K hK => ?_) (AllReadyH.nil)
              · refine step_value (v := .pointer (some ⟨y4.heap.size, 0, none⟩)) (w' := y4.alloc (.cells #[.int .u64 0, .int .u64 0] 37)) rfl (by kernel_rfl) ?_
                have hb := box1 y4 (.cells #[.int .u64 0, .int .u64 0] 37)
                have G6 := Lib.hid (G4.out.next hb)
                have X6 : Hid (Bx w (y4.alloc (.cells #[.int .u64 0, .int .u64 0] 37)) y4.heap.size 0 0 N b cb ∧ y4.heap.size ≠ M ∧ ∀ q, u8.ownBlock = some q → q ≠ y4.heap.size) := ⟨G4.out.alloc.1, G4.out.alloc.2, E4.out.far⟩
                have E6 := Lib.hid (E4.out.next hb)
                clear hb
                generalize y4.alloc (.cells #[.int .u64 0, .int .u64 0] 37) = y6 at *
                generalize y4.heap.size = nb at *
                show K (Act.put _ (some 10) _) y6
                refine hK.out _ _ (G6.out.sp.box) (fun _ => ?_)
                clear hK K
                refine wpAnyH_ready (rs := [6]) (by kernel_rfl) (by simp) ?_
                refine AllReadyH.cons rfl (fun K hK => ?_) AllReadyH.nil
                have z0 := X6.out.1.op.z0
                have z1 := X6.out.1.op.z1
                have f0 := frozen_of (j := 0) X6.out.1.op
                have f1 := frozen_of (j := 1) X6.out.1.op
                have nn := X6.out.1.ne
                have nM := X6.out.2.1
                have nX := X6.out.2.2
                have OO := only_op (w := y6) (n := nb) (.int .u64 (A : Nat)) (.int .u64 (D : Nat))
                have GZ := Lib.hid (G6.out.stay OO (by simp; omega))
                have XZ : Hid (Bx w _ nb (A) (D) N b cb ∧ nb ≠ M ∧ ∀ q, u8.ownBlock = some q → q ≠ nb) := ⟨⟨X6.out.1.op.set (A) (D), nn⟩, nM, nX⟩
                have EZ := Lib.hid (E6.out.stay OO nX)
                go_simp
                refine hK.out _ _ (GZ.out.sp.box) (fun _ => ?_)
                refine ⟨by kernel_rfl, ?_⟩
                refine NoPanic.normal ?_
                go_wp2_with fail
                go_meet
                case rel => exact ⟨nb, rfl, GZ, XZ, EZ⟩

            · refine step_value (v := .pointer (some ⟨y2.heap.size, 0, none⟩)) (w' := y2.alloc (.cells #[.int .u64 0, .int .u64 0] 37)) rfl (by kernel_rfl) ?_
              have hb := box1 y2 (.cells #[.int .u64 0, .int .u64 0] 37)
              have G8 := Lib.hid (G2.out.next hb)
              have X8 : Hid (Bx w (y2.alloc (.cells #[.int .u64 0, .int .u64 0] 37)) y2.heap.size 0 0 N b cb ∧ y2.heap.size ≠ M ∧ ∀ q, u8.ownBlock = some q → q ≠ y2.heap.size) := ⟨G2.out.alloc.1, G2.out.alloc.2, E2.out.far⟩
              have E8 := Lib.hid (E2.out.next hb)
              clear hb
              generalize y2.alloc (.cells #[.int .u64 0, .int .u64 0] 37) = y8 at *
              generalize y2.heap.size = nb at *
              show K (Act.put _ (some 10) _) y8
              refine hK.out _ _ (G8.out.sp.box) (fun _ => ?_)
              clear hK K
              refine wpAnyH_ready (rs := [4]) (by kernel_rfl) (by simp) ?_
              refine AllReadyH.cons rfl (fun K hK => ?_) (AllReadyH.nil)
              · refine step_enter (F := 21) (vals := #[.agg #[.int .i64 W, .int .i64 (S : Nat), .int .i64 (B : Nat), .int .i64 T, .slice (some ⟨cb, 0, none⟩) len len], .slice (some ⟨b, 0, none⟩) (2 * S) (2 * S), .agg #[.int .u64 (AQ : Nat), .int .u64 0]]) rfl (by kernel_rfl) ?_
                refine (AP.out _ G8.out).mono ?_
                rintro e y10 ⟨rfl, hg, ho⟩
                have G10 := Lib.hid hg
                have nn := X8.out.1.ne
                have X10 : Hid (Bx w y10 nb 0 0 N b cb ∧ nb ≠ M ∧ ∀ q, u8.ownBlock = some q → q ≠ nb) := ⟨X8.out.1.stay ho (by simp; omega), X8.out.2⟩
                have E10 := Lib.hid (E8.out.stayB ho)
                clear hg ho
                show K (Act.put _ (some 39) _) y10
                refine hK.out _ _ (G10.out.sp.box) (fun _ => ?_)
                clear hK K
                refine wpAnyH_ready (rs := [6]) (by kernel_rfl) (by simp) ?_
                refine AllReadyH.cons rfl (fun K hK => ?_) AllReadyH.nil
                have z0 := X10.out.1.op.z0
                have z1 := X10.out.1.op.z1
                have f0 := frozen_of (j := 0) X10.out.1.op
                have f1 := frozen_of (j := 1) X10.out.1.op
                have nn := X10.out.1.ne
                have nM := X10.out.2.1
                have nX := X10.out.2.2
                have OO := only_op (w := y10) (n := nb) (.int .u64 (A : Nat)) (.int .u64 (D : Nat))
                have GZ := Lib.hid (G10.out.stay OO (by simp; omega))
                have XZ : Hid (Bx w _ nb (A) (D) N b cb ∧ nb ≠ M ∧ ∀ q, u8.ownBlock = some q → q ≠ nb) := ⟨⟨X10.out.1.op.set (A) (D), nn⟩, nM, nX⟩
                have EZ := Lib.hid (E10.out.stay OO nX)
                go_simp
                refine hK.out _ _ (GZ.out.sp.box) (fun _ => ?_)
                refine ⟨by kernel_rfl, ?_⟩
                refine NoPanic.normal ?_
                go_wp2_with fail
                go_meet
                case rel => exact ⟨nb, rfl, GZ, XZ, EZ⟩


          · refine step_value (v := .pointer (some ⟨z0.heap.size, 0, none⟩)) (w' := z0.alloc (.cells #[.int .u64 0, .int .u64 0] 37)) rfl (by kernel_rfl) ?_
            have hb := box1 z0 (.cells #[.int .u64 0, .int .u64 0] 37)
            have G12 := Lib.hid (G0.out.next hb)
            have X12 : Hid (Bx w (z0.alloc (.cells #[.int .u64 0, .int .u64 0] 37)) z0.heap.size 0 0 N b cb ∧ z0.heap.size ≠ M ∧ ∀ q, u8.ownBlock = some q → q ≠ z0.heap.size) := ⟨G0.out.alloc.1, G0.out.alloc.2, E0.out.far⟩
            have E12 := Lib.hid (E0.out.next hb)
            clear hb
            generalize z0.alloc (.cells #[.int .u64 0, .int .u64 0] 37) = y12 at *
            generalize z0.heap.size = nb at *
            show K (Act.put _ (some 10) _) y12
            refine hK.out _ _ (G12.out.sp.box) (fun _ => ?_)
            clear hK K
            refine wpAnyH_ready (rs := [3]) (by kernel_rfl) (by simp) ?_
            refine AllReadyH.cons rfl (fun K hK => ?_) (AllReadyH.nil)
            · refine step_enter (F := 22) (vals := #[.int .i64 (kc : Nat)]) rfl (by kernel_rfl) ?_
              refine (RF.out _ G12.out.sp.fl).mono ?_
              rintro e y14 ⟨rfl, hb⟩
              have G14 := Lib.hid (G12.out.next hb)
              have X14 : Hid (Bx w y14 nb 0 0 N b cb ∧ nb ≠ M ∧ ∀ q, u8.ownBlock = some q → q ≠ nb) := ⟨X12.out.1.next hb, X12.out.2⟩
              have E14 := Lib.hid (E12.out.next hb)
              clear hb
              show K (Act.put _ (some 38) _) y14
              refine hK.out _ _ (G14.out.sp.box) (fun _ => ?_)
              clear hK K
              refine wpAnyH_ready (rs := [4]) (by kernel_rfl) (by simp) ?_
              refine AllReadyH.cons rfl (fun K hK => ?_) (AllReadyH.nil)
              · refine step_enter (F := 21) (vals := #[.agg #[.int .i64 W, .int .i64 (S : Nat), .int .i64 (B : Nat), .int .i64 T, .slice (some ⟨cb, 0, none⟩) len len], .slice (some ⟨b, 0, none⟩) (2 * S) (2 * S), .agg #[.int .u64 (AQ : Nat), .int .u64 0]]) rfl (by kernel_rfl) ?_
                refine (AP.out _ G14.out).mono ?_
                rintro e y16 ⟨rfl, hg, ho⟩
                have G16 := Lib.hid hg
                have nn := X14.out.1.ne
                have X16 : Hid (Bx w y16 nb 0 0 N b cb ∧ nb ≠ M ∧ ∀ q, u8.ownBlock = some q → q ≠ nb) := ⟨X14.out.1.stay ho (by simp; omega), X14.out.2⟩
                have E16 := Lib.hid (E14.out.stayB ho)
                clear hg ho
                show K (Act.put _ (some 39) _) y16
                refine hK.out _ _ (G16.out.sp.box) (fun _ => ?_)
                clear hK K
                refine wpAnyH_ready (rs := [6]) (by kernel_rfl) (by simp) ?_
                refine AllReadyH.cons rfl (fun K hK => ?_) AllReadyH.nil
                have z0 := X16.out.1.op.z0
                have z1 := X16.out.1.op.z1
                have f0 := frozen_of (j := 0) X16.out.1.op
                have f1 := frozen_of (j := 1) X16.out.1.op
                have nn := X16.out.1.ne
                have nM := X16.out.2.1
                have nX := X16.out.2.2
                have OO := only_op (w := y16) (n := nb) (.int .u64 (A : Nat)) (.int .u64 (D : Nat))
                have GZ := Lib.hid (G16.out.stay OO (by simp; omega))
                have XZ : Hid (Bx w _ nb (A) (D) N b cb ∧ nb ≠ M ∧ ∀ q, u8.ownBlock = some q → q ≠ nb) := ⟨⟨X16.out.1.op.set (A) (D), nn⟩, nM, nX⟩
                have EZ := Lib.hid (E16.out.stay OO nX)
                go_simp
                refine hK.out _ _ (GZ.out.sp.box) (fun _ => ?_)
                refine ⟨by kernel_rfl, ?_⟩
                refine NoPanic.normal ?_
                go_wp2_with fail
                go_meet
                case rel => exact ⟨nb, rfl, GZ, XZ, EZ⟩



        case rest =>
          obtain ⟨nb, rfl, G2, X2, E2⟩ := hcut
          clear G E c0 c1 c2 c3 c4 d0 d1 d2 d3 d4 RF AP
          have e0 := X2.out.1.op.c0
          have e1 := X2.out.1.op.c1
          have wl := well_last WL3.out
          have a0 : ((A : Int) == 0) = false := by simp; omega
          have AB := Lib.hid (box1 wc (.cells #[.int .u64 (A : Nat), .int .u64 (D : Nat)] 37))
          have V3 := Lib.hid (heap_new wc (.cells #[.int .u64 (A : Nat), .int .u64 (D : Nat)] 37))
          have G3 := Lib.hid (G2.out.next AB.out)
          have E3 := Lib.hid (E2.out.next AB.out)
          have X3 := Lib.hid (X2.out.1.next AB.out)
          obtain ⟨v', w8, hrun, L8, gr8, bq, cq, rfl⟩ := Or.app (x := (A, D)) E3.out V3.out (by omega) 51 (by
            have h1 := cfg_lt G3.out.cfg
            have h2 := heap_lt G3.out.sp.box
            have h3 := G3.out.sp.hw.lt
            have h4 := heap_lt G3.out.sp.row
            rintro k (rfl | rfl | rfl | rfl) <;> assumption) G3.out.sp.be.size
          have HR := Lib.hid hrun
          have OG : Hid (Only u8.ownBlock.toList _ w8) := Only.of_grown (l := u8.ownBlock.toList) gr8 (fun k hk => by rw [hk]; simp)
          have G8 : Hid (Su w w8 M N b cb W T S B len ad cap f (stOf S kc LOW (r ++ [(A, D)]))) := G3.out.stay OG.out (fun k hk => E3.out.ne k (by simpa using hk))
          have X8 := Lib.hid (X3.out.stay OG.out (by intro hk; exact X2.out.2.2 nb (by simpa using hk) rfl))
          have L9 := Lib.hid L8
          clear L8 gr8 G3 E3 hrun AB V3 E2 OG X3
          have x0 := X8.out.op.c0
          have x1 := X8.out.op.c1
          have CT := Lib.hid fun w => count_any D w (by omega)
          have HC := cntA_app r (A, D)
          rw [Ma.mem_length] at HC
          simp only at HC
          have hcl2 := cnt_le (S := S) hcp.2 (by rw [hLOW]; exact WL3.out)
          generalize hpf : Ma.popF 64 D = PF at *
          have wn : IntKind.i64.wrap ((cntA r : Int) + (PF : Int)) = (cntA r : Int) + (PF : Int) := by rw [IntKind.wrap_i64]; omega
          have wr1 : IntKind.i64.wrap ((r.length : Int) + 1) = (r.length : Int) + 1 := by rw [IntKind.wrap_i64]; omega
          go_wp2_with (at_builtin; refine wpList_append_by rfl _ _ 51 51 rfl u8 (.slice (some ⟨wc.heap.size, 0, none⟩) 1 1) (by rfl) (by rfl) HR.out ?_)
          refine (CT.out _).mono ?_
          rintro e w9 ⟨rfl, rfl⟩
          go_wp2_with fail
          go_roundw
          case rel =>
            refine ⟨r ++ [(A, D)], ?_, ?_, WL3, G8, L9⟩
            · simp
            · rw [HC]; push_cast; rfl
          case measure => simp [intOf]; omega
      · rw [e1] at hAP
        have AP : Hid (∀ y, Su w y M N b cb W T S B len ad cap f (stOf S kc LOW r) → Calls Tryd.prog 21 #[.agg #[.int .i64 W, .int .i64 (S : Nat), .int .i64 (B : Nat), .int .i64 T, .slice (some ⟨cb, 0, none⟩) len len], .slice (some ⟨b, 0, none⟩) (2 * S) (2 * S), .agg #[.int .u64 (AQ : Nat), .int .u64 0]] y fun e y' => e = .returned (.agg #[.int .u64 ((0 : Nat) : Int), .int .u64 ((0 : Nat) : Int)]) ∧ Su w y' M N b cb W T S B len ad cap f (stOf S kc LOW r) ∧ Only [b] y y') := fun y h => by
          have := h.apply (A := AQ) (D := 0) (c := 2 * S) (by omega) (by decide)
          rw [hAP] at this
          exact this
        clear hAP hAQ hA1 e1
        go_upto_region 11 with fail
        go_cut [10] (fun u10 wx => ∃ nb, u10 = .pointer (some ⟨nb, 0, none⟩) ∧ Hid (Su w wx M N b cb W T S B len ad cap f (stOf S kc LOW r)) ∧ Hid (Bx w wx nb 0 0 N b cb ∧ nb ≠ M ∧ ∀ q, u8.ownBlock = some q → q ≠ nb) ∧ Hid (Or w wx u8 r M N b cb))
        case first =>
          refine wp_region_noPanic ?_
          refine wp_region_held_drew (S := fun w' => HBox w' N W (S : Nat) (B : Nat) T (.slice (some ⟨cb, 0, none⟩) len len)) (by kernel_rfl) (G.out.sp.box) (fun hHeld => ?_)
          have DR := (Below.refl wr.heap.size wr).drew
          have G0 := Lib.hid (G.out.next DR)
          have E0 := Lib.hid (E.out.next DR)
          clear DR
          generalize wr.drew = z0 at *
          refine wpAnyH_take (i := 0) (v := .agg #[.int .i64 W, .int .i64 (S : Nat), .int .i64 (B : Nat), .int .i64 T, .slice (some ⟨cb, 0, none⟩) len len]) rfl (by kernel_rfl) (by kernel_rfl) (by kernel_rfl) (fun _ _ _ h => h) (Or.inl ⟨by rfl, fun w hSw => by have c0 := HBox.c0 hSw; have c1 := HBox.c1 hSw; have c2 := HBox.c2 hSw; have c3 := HBox.c3 hSw; have c4 := HBox.c4 hSw; go_simp⟩) (by assumption) ?_
          change wpAnyH _ _ _ _ _ _ _ (Act.put _ (some 35) _) _
          simp only [Act.put, List.setIfInBounds_toArray, List.set_cons_zero, List.set_cons_succ]
          refine wpAnyH_take (i := 1) (v := .slice (some ⟨b, 0, none⟩) (2 * S) (2 * S)) rfl (by kernel_rfl) (by kernel_rfl) (by kernel_rfl) (fun _ _ _ h => h) (Or.inl ⟨by rfl, fun w hSw => by have c0 := HBox.c0 hSw; have c1 := HBox.c1 hSw; have c2 := HBox.c2 hSw; have c3 := HBox.c3 hSw; have c4 := HBox.c4 hSw; go_simp⟩) (by assumption) ?_
          change wpAnyH _ _ _ _ _ _ _ (Act.put _ (some 36) _) _
          simp only [Act.put, List.setIfInBounds_toArray, List.set_cons_zero, List.set_cons_succ]
          refine wpAnyH_take (i := 2) (v := .int .i64 (kc : Nat)) rfl (by kernel_rfl) (by kernel_rfl) (by kernel_rfl) (fun _ _ _ h => h) (Or.inl ⟨by rfl, fun w hSw => by have c0 := HBox.c0 hSw; have c1 := HBox.c1 hSw; have c2 := HBox.c2 hSw; have c3 := HBox.c3 hSw; have c4 := HBox.c4 hSw; go_simp⟩) (by assumption) ?_
          change wpAnyH _ _ _ _ _ _ _ (Act.put _ (some 37) _) _
          simp only [Act.put, List.setIfInBounds_toArray, List.set_cons_zero, List.set_cons_succ]
          refine wpAnyH_ready (rs := [3, 5]) (by kernel_rfl) (by simp) ?_
          refine AllReadyH.cons rfl (fun K hK => ?_) (AllReadyH.cons rfl (fun K hK => ?_) (AllReadyH.nil))
          · refine step_enter (F := 22) (vals := #[.int .i64 (kc : Nat)]) rfl (by kernel_rfl) ?_
            refine (RF.out _ G0.out.sp.fl).mono ?_
            rintro e y2 ⟨rfl, hb⟩
            have G2 := Lib.hid (G0.out.next hb)
            have E2 := Lib.hid (E0.out.next hb)
            clear hb
            show K (Act.put _ (some 38) _) y2
            refine hK.out _ _ (G2.out.sp.box) (fun _ => ?_)
            clear hK K
            refine wpAnyH_ready (rs := [4, 5]) (by kernel_rfl) (by simp) ?_
            refine AllReadyH.cons rfl (fun K hK => ?_) (AllReadyH.cons rfl (fun K hK => ?_) (AllReadyH.nil))
            · refine step_enter (F := 21) (vals := #[.agg #[.int .i64 W, .int .i64 (S : Nat), .int .i64 (B : Nat), .int .i64 T, .slice (some ⟨cb, 0, none⟩) len len], .slice (some ⟨b, 0, none⟩) (2 * S) (2 * S), .agg #[.int .u64 (AQ : Nat), .int .u64 0]]) rfl (by kernel_rfl) ?_
              refine (AP.out _ G2.out).mono ?_
              rintro e y4 ⟨rfl, hg, ho⟩
              have G4 := Lib.hid hg
              have E4 := Lib.hid (E2.out.stayB ho)
              clear hg ho
              show K (Act.put _ (some 39) _) y4
              refine hK.out _ _ (G4.out.sp.box) (fun _ => ?_)
              clear hK K
              refine wpAnyH_ready (rs := [5]) (by kernel_rfl) (by simp) ?_
              refine AllReadyH.cons rfl (fun K hK => ?_) (AllReadyH.nil)
              · refine step_value (v := .pointer (some ⟨y4.heap.size, 0, none⟩)) (w' := y4.alloc (.cells #[.int .u64 0, .int .u64 0] 37)) rfl (by kernel_rfl) ?_
                have hb := box1 y4 (.cells #[.int .u64 0, .int .u64 0] 37)
                have G6 := Lib.hid (G4.out.next hb)
                have X6 : Hid (Bx w (y4.alloc (.cells #[.int .u64 0, .int .u64 0] 37)) y4.heap.size 0 0 N b cb ∧ y4.heap.size ≠ M ∧ ∀ q, u8.ownBlock = some q → q ≠ y4.heap.size) := ⟨G4.out.alloc.1, G4.out.alloc.2, E4.out.far⟩
                have E6 := Lib.hid (E4.out.next hb)
                clear hb
                generalize y4.alloc (.cells #[.int .u64 0, .int .u64 0] 37) = y6 at *
                generalize y4.heap.size = nb at *
                show K (Act.put _ (some 10) _) y6
                refine hK.out _ _ (G6.out.sp.box) (fun _ => ?_)
                clear hK K
                refine wpAnyH_ready (rs := [6]) (by kernel_rfl) (by simp) ?_
                refine AllReadyH.cons rfl (fun K hK => ?_) AllReadyH.nil
                have z0 := X6.out.1.op.z0
                have z1 := X6.out.1.op.z1
                have f0 := frozen_of (j := 0) X6.out.1.op
                have f1 := frozen_of (j := 1) X6.out.1.op
                have nn := X6.out.1.ne
                have nM := X6.out.2.1
                have nX := X6.out.2.2
                have OO := only_op (w := y6) (n := nb) (.int .u64 (0 : Nat)) (.int .u64 (0 : Nat))
                have GZ := Lib.hid (G6.out.stay OO (by simp; omega))
                have XZ : Hid (Bx w _ nb (0) (0) N b cb ∧ nb ≠ M ∧ ∀ q, u8.ownBlock = some q → q ≠ nb) := ⟨⟨X6.out.1.op.set (0) (0), nn⟩, nM, nX⟩
                have EZ := Lib.hid (E6.out.stay OO nX)
                go_simp
                refine hK.out _ _ (GZ.out.sp.box) (fun _ => ?_)
                refine ⟨by kernel_rfl, ?_⟩
                refine NoPanic.normal ?_
                go_wp2_with fail
                go_meet
                case rel => exact ⟨nb, rfl, GZ, XZ, EZ⟩

            · refine step_value (v := .pointer (some ⟨y2.heap.size, 0, none⟩)) (w' := y2.alloc (.cells #[.int .u64 0, .int .u64 0] 37)) rfl (by kernel_rfl) ?_
              have hb := box1 y2 (.cells #[.int .u64 0, .int .u64 0] 37)
              have G8 := Lib.hid (G2.out.next hb)
              have X8 : Hid (Bx w (y2.alloc (.cells #[.int .u64 0, .int .u64 0] 37)) y2.heap.size 0 0 N b cb ∧ y2.heap.size ≠ M ∧ ∀ q, u8.ownBlock = some q → q ≠ y2.heap.size) := ⟨G2.out.alloc.1, G2.out.alloc.2, E2.out.far⟩
              have E8 := Lib.hid (E2.out.next hb)
              clear hb
              generalize y2.alloc (.cells #[.int .u64 0, .int .u64 0] 37) = y8 at *
              generalize y2.heap.size = nb at *
              show K (Act.put _ (some 10) _) y8
              refine hK.out _ _ (G8.out.sp.box) (fun _ => ?_)
              clear hK K
              refine wpAnyH_ready (rs := [4]) (by kernel_rfl) (by simp) ?_
              refine AllReadyH.cons rfl (fun K hK => ?_) (AllReadyH.nil)
              · refine step_enter (F := 21) (vals := #[.agg #[.int .i64 W, .int .i64 (S : Nat), .int .i64 (B : Nat), .int .i64 T, .slice (some ⟨cb, 0, none⟩) len len], .slice (some ⟨b, 0, none⟩) (2 * S) (2 * S), .agg #[.int .u64 (AQ : Nat), .int .u64 0]]) rfl (by kernel_rfl) ?_
                refine (AP.out _ G8.out).mono ?_
                rintro e y10 ⟨rfl, hg, ho⟩
                have G10 := Lib.hid hg
                have nn := X8.out.1.ne
                have X10 : Hid (Bx w y10 nb 0 0 N b cb ∧ nb ≠ M ∧ ∀ q, u8.ownBlock = some q → q ≠ nb) := ⟨X8.out.1.stay ho (by simp; omega), X8.out.2⟩
                have E10 := Lib.hid (E8.out.stayB ho)
                clear hg ho
                show K (Act.put _ (some 39) _) y10
                refine hK.out _ _ (G10.out.sp.box) (fun _ => ?_)
                clear hK K
                refine wpAnyH_ready (rs := [6]) (by kernel_rfl) (by simp) ?_
                refine AllReadyH.cons rfl (fun K hK => ?_) AllReadyH.nil
                have z0 := X10.out.1.op.z0
                have z1 := X10.out.1.op.z1
                have f0 := frozen_of (j := 0) X10.out.1.op
                have f1 := frozen_of (j := 1) X10.out.1.op
                have nn := X10.out.1.ne
                have nM := X10.out.2.1
                have nX := X10.out.2.2
                have OO := only_op (w := y10) (n := nb) (.int .u64 (0 : Nat)) (.int .u64 (0 : Nat))
                have GZ := Lib.hid (G10.out.stay OO (by simp; omega))
                have XZ : Hid (Bx w _ nb (0) (0) N b cb ∧ nb ≠ M ∧ ∀ q, u8.ownBlock = some q → q ≠ nb) := ⟨⟨X10.out.1.op.set (0) (0), nn⟩, nM, nX⟩
                have EZ := Lib.hid (E10.out.stay OO nX)
                go_simp
                refine hK.out _ _ (GZ.out.sp.box) (fun _ => ?_)
                refine ⟨by kernel_rfl, ?_⟩
                refine NoPanic.normal ?_
                go_wp2_with fail
                go_meet
                case rel => exact ⟨nb, rfl, GZ, XZ, EZ⟩


          · refine step_value (v := .pointer (some ⟨z0.heap.size, 0, none⟩)) (w' := z0.alloc (.cells #[.int .u64 0, .int .u64 0] 37)) rfl (by kernel_rfl) ?_
            have hb := box1 z0 (.cells #[.int .u64 0, .int .u64 0] 37)
            have G12 := Lib.hid (G0.out.next hb)
            have X12 : Hid (Bx w (z0.alloc (.cells #[.int .u64 0, .int .u64 0] 37)) z0.heap.size 0 0 N b cb ∧ z0.heap.size ≠ M ∧ ∀ q, u8.ownBlock = some q → q ≠ z0.heap.size) := ⟨G0.out.alloc.1, G0.out.alloc.2, E0.out.far⟩
            have E12 := Lib.hid (E0.out.next hb)
            clear hb
            generalize z0.alloc (.cells #[.int .u64 0, .int .u64 0] 37) = y12 at *
            generalize z0.heap.size = nb at *
            show K (Act.put _ (some 10) _) y12
            refine hK.out _ _ (G12.out.sp.box) (fun _ => ?_)
            clear hK K
            refine wpAnyH_ready (rs := [3]) (by kernel_rfl) (by simp) ?_
            refine AllReadyH.cons rfl (fun K hK => ?_) (AllReadyH.nil)
            · refine step_enter (F := 22) (vals := #[.int .i64 (kc : Nat)]) rfl (by kernel_rfl) ?_
              refine (RF.out _ G12.out.sp.fl).mono ?_
              rintro e y14 ⟨rfl, hb⟩
              have G14 := Lib.hid (G12.out.next hb)
              have X14 : Hid (Bx w y14 nb 0 0 N b cb ∧ nb ≠ M ∧ ∀ q, u8.ownBlock = some q → q ≠ nb) := ⟨X12.out.1.next hb, X12.out.2⟩
              have E14 := Lib.hid (E12.out.next hb)
              clear hb
              show K (Act.put _ (some 38) _) y14
              refine hK.out _ _ (G14.out.sp.box) (fun _ => ?_)
              clear hK K
              refine wpAnyH_ready (rs := [4]) (by kernel_rfl) (by simp) ?_
              refine AllReadyH.cons rfl (fun K hK => ?_) (AllReadyH.nil)
              · refine step_enter (F := 21) (vals := #[.agg #[.int .i64 W, .int .i64 (S : Nat), .int .i64 (B : Nat), .int .i64 T, .slice (some ⟨cb, 0, none⟩) len len], .slice (some ⟨b, 0, none⟩) (2 * S) (2 * S), .agg #[.int .u64 (AQ : Nat), .int .u64 0]]) rfl (by kernel_rfl) ?_
                refine (AP.out _ G14.out).mono ?_
                rintro e y16 ⟨rfl, hg, ho⟩
                have G16 := Lib.hid hg
                have nn := X14.out.1.ne
                have X16 : Hid (Bx w y16 nb 0 0 N b cb ∧ nb ≠ M ∧ ∀ q, u8.ownBlock = some q → q ≠ nb) := ⟨X14.out.1.stay ho (by simp; omega), X14.out.2⟩
                have E16 := Lib.hid (E14.out.stayB ho)
                clear hg ho
                show K (Act.put _ (some 39) _) y16
                refine hK.out _ _ (G16.out.sp.box) (fun _ => ?_)
                clear hK K
                refine wpAnyH_ready (rs := [6]) (by kernel_rfl) (by simp) ?_
                refine AllReadyH.cons rfl (fun K hK => ?_) AllReadyH.nil
                have z0 := X16.out.1.op.z0
                have z1 := X16.out.1.op.z1
                have f0 := frozen_of (j := 0) X16.out.1.op
                have f1 := frozen_of (j := 1) X16.out.1.op
                have nn := X16.out.1.ne
                have nM := X16.out.2.1
                have nX := X16.out.2.2
                have OO := only_op (w := y16) (n := nb) (.int .u64 (0 : Nat)) (.int .u64 (0 : Nat))
                have GZ := Lib.hid (G16.out.stay OO (by simp; omega))
                have XZ : Hid (Bx w _ nb (0) (0) N b cb ∧ nb ≠ M ∧ ∀ q, u8.ownBlock = some q → q ≠ nb) := ⟨⟨X16.out.1.op.set (0) (0), nn⟩, nM, nX⟩
                have EZ := Lib.hid (E16.out.stay OO nX)
                go_simp
                refine hK.out _ _ (GZ.out.sp.box) (fun _ => ?_)
                refine ⟨by kernel_rfl, ?_⟩
                refine NoPanic.normal ?_
                go_wp2_with fail
                go_meet
                case rel => exact ⟨nb, rfl, GZ, XZ, EZ⟩



        case rest =>
          obtain ⟨nb, rfl, G2, X2, E2⟩ := hcut
          clear G E c0 c1 c2 c3 c4 d0 d1 d2 d3 d4 RF AP
          have e0 := X2.out.1.op.z0
          have e1 := X2.out.1.op.z1
          have hlow0 : LOW ≠ 0 := by
            intro e
            have := Ma.testBit_lowN (capN len f kc) 0
            rw [hLOW, e] at this
            simp at this
            omega
          have hcnt := cnt_full (S := S) hcp.2 (by rw [hLOW]; exact WL.out) (by rw [hLOW]; exact hfull)
          have CI := capN_int OK.out kc
          have CC : Hid (∀ y, RowI y ad len f → Calls Tryd.prog 28 #[.agg #[.int .i64 W, .int .i64 (S : Nat), .int .i64 (B : Nat), .int .i64 T, .slice ad len cap], .int .i64 (kc : Nat)] y fun e y' => e = .returned (.int .i64 ((capN len f kc : Nat) : Int)) ∧ Below y.heap.size y y') := fun y h => by
            have := rcap_any W (S : Nat) (B : Nat) T ad len cap f (kc : Nat) y (Lib.hid h) OK
            rw [CI] at this
            exact this
          have TK : Hid (∀ y, FldAt y → Calls Tryd.prog 26 #[.int .i64 1] y fun e y' => e = .returned (.agg #[.int .u64 259, .int .u64 0]) ∧ Below y.heap.size y y') := fun y h => takeOp_any 1 y (by decide) (by decide) (Lib.hid h)
          have hAP2 : appP (capN len f) B (stOf S kc LOW r) (259, 0) = (stOf S kc LOW r, (0, 0)) := by
            rw [app3 (by decide) (by decide)]
            exact take_full hlow0 hfull (by decide)
          have AP2 : Hid (∀ y, Su w y M N b cb W T S B len ad cap f (stOf S kc LOW r) → Calls Tryd.prog 21 #[.agg #[.int .i64 W, .int .i64 (S : Nat), .int .i64 (B : Nat), .int .i64 T, .slice (some ⟨cb, 0, none⟩) len len], .slice (some ⟨b, 0, none⟩) (2 * S) (2 * S), .agg #[.int .u64 259, .int .u64 0]] y fun e y' => e = .returned (.agg #[.int .u64 0, .int .u64 0]) ∧ Su w y' M N b cb W T S B len ad cap f (stOf S kc LOW r) ∧ Only [b] y y') := fun y h => by
            have := h.apply (A := 259) (D := 0) (c := 2 * S) (by decide) (by decide)
            rw [hAP2] at this
            exact this
          have wm : IntKind.i64.wrap ((S : Int) * ((capN len f kc : Nat) : Int)) = ((cntA r : Nat) : Int) := by
            rw [IntKind.wrap_i64, hcnt]; push_cast
            have : (S : Int) * (capN len f kc : Int) = ((S * capN len f kc : Nat) : Int) := by push_cast; rfl
            omega
          clear hAP2
          go_upto_region 16 with fail
          have G := G2
          have E := E2
          go_cut [68] (fun u68 wx => u68 = .bool false ∧ Hid (Su w wx M N b cb W T S B len ad cap f (stOf S kc LOW r)) ∧ Hid (Or w wx u8 r M N b cb))
          case first =>
            refine wp_region_noPanic ?_
            refine wp_region_held_drew (S := fun w' => HBox w' N W (S : Nat) (B : Nat) T (.slice (some ⟨cb, 0, none⟩) len len) ∧ Cfg5 w' M W (S : Nat) (B : Nat) T (.slice ad len cap)) (by kernel_rfl) (⟨G.out.sp.box, G.out.cfg⟩) (fun hHeld => ?_)
            have DR := (Below.refl wc.heap.size wc).drew
            have G0 := Lib.hid (G.out.next DR)
            have E0 := Lib.hid (E.out.next DR)
            clear DR
            generalize wc.drew = z0 at *
            refine wpAnyH_take (i := 0) (v := .int .i64 (cntA r : Nat)) rfl (by kernel_rfl) (by kernel_rfl) (by kernel_rfl) (fun _ _ _ h => h) (Or.inl ⟨by rfl, fun w hSw => by obtain ⟨hB, hC⟩ := hSw; have c0 := HBox.c0 hB; have c1 := HBox.c1 hB; have c2 := HBox.c2 hB; have c3 := HBox.c3 hB; have c4 := HBox.c4 hB; obtain ⟨q0, q1, q2, q3, q4⟩ := cfg_cells hC; first | (go_simp; done) | (go_simp; exact wm) | (go_simp; rfl)⟩) (by assumption) ?_
            change wpAnyH _ _ _ _ _ _ _ (Act.put _ (some 53) _) _
            simp only [Act.put, List.setIfInBounds_toArray, List.set_cons_zero, List.set_cons_succ]
            refine wpAnyH_take (i := 1) (v := .pointer (some ⟨M, 1, none⟩)) rfl (by kernel_rfl) (by kernel_rfl) (by kernel_rfl) (fun _ _ _ h => h) (Or.inl ⟨by rfl, fun w hSw => by obtain ⟨hB, hC⟩ := hSw; have c0 := HBox.c0 hB; have c1 := HBox.c1 hB; have c2 := HBox.c2 hB; have c3 := HBox.c3 hB; have c4 := HBox.c4 hB; obtain ⟨q0, q1, q2, q3, q4⟩ := cfg_cells hC; first | (go_simp; done) | (go_simp; exact wm) | (go_simp; rfl)⟩) (by assumption) ?_
            change wpAnyH _ _ _ _ _ _ _ (Act.put _ (some 54) _) _
            simp only [Act.put, List.setIfInBounds_toArray, List.set_cons_zero, List.set_cons_succ]
            refine wpAnyH_take (i := 2) (v := .int .i64 (S : Nat)) rfl (by kernel_rfl) (by kernel_rfl) (by kernel_rfl) (fun _ _ _ h => h) (Or.inl ⟨by rfl, fun w hSw => by obtain ⟨hB, hC⟩ := hSw; have c0 := HBox.c0 hB; have c1 := HBox.c1 hB; have c2 := HBox.c2 hB; have c3 := HBox.c3 hB; have c4 := HBox.c4 hB; obtain ⟨q0, q1, q2, q3, q4⟩ := cfg_cells hC; first | (go_simp; done) | (go_simp; exact wm) | (go_simp; rfl)⟩) (by assumption) ?_
            change wpAnyH _ _ _ _ _ _ _ (Act.put _ (some 55) _) _
            simp only [Act.put, List.setIfInBounds_toArray, List.set_cons_zero, List.set_cons_succ]
            refine wpAnyH_take (i := 3) (v := .agg #[.int .i64 W, .int .i64 (S : Nat), .int .i64 (B : Nat), .int .i64 T, .slice ad len cap]) rfl (by kernel_rfl) (by kernel_rfl) (by kernel_rfl) (fun _ _ _ h => h) (Or.inl ⟨by rfl, fun w hSw => by obtain ⟨hB, hC⟩ := hSw; have c0 := HBox.c0 hB; have c1 := HBox.c1 hB; have c2 := HBox.c2 hB; have c3 := HBox.c3 hB; have c4 := HBox.c4 hB; obtain ⟨q0, q1, q2, q3, q4⟩ := cfg_cells hC; first | (go_simp; done) | (go_simp; exact wm) | (go_simp; rfl)⟩) (by assumption) ?_
            change wpAnyH _ _ _ _ _ _ _ (Act.put _ (some 56) _) _
            simp only [Act.put, List.setIfInBounds_toArray, List.set_cons_zero, List.set_cons_succ]
            refine wpAnyH_take (i := 4) (v := .int .i64 (kc : Nat)) rfl (by kernel_rfl) (by kernel_rfl) (by kernel_rfl) (fun _ _ _ h => h) (Or.inl ⟨by rfl, fun w hSw => by obtain ⟨hB, hC⟩ := hSw; have c0 := HBox.c0 hB; have c1 := HBox.c1 hB; have c2 := HBox.c2 hB; have c3 := HBox.c3 hB; have c4 := HBox.c4 hB; obtain ⟨q0, q1, q2, q3, q4⟩ := cfg_cells hC; first | (go_simp; done) | (go_simp; exact wm) | (go_simp; rfl)⟩) (by assumption) ?_
            change wpAnyH _ _ _ _ _ _ _ (Act.put _ (some 57) _) _
            simp only [Act.put, List.setIfInBounds_toArray, List.set_cons_zero, List.set_cons_succ]
            refine wpAnyH_ready (rs := [5]) (by kernel_rfl) (by simp) ?_
            refine AllReadyH.cons rfl (fun K hK => ?_) AllReadyH.nil
            refine step_enter (F := 28) (vals := #[.agg #[.int .i64 W, .int .i64 (S : Nat), .int .i64 (B : Nat), .int .i64 T, .slice ad len cap], .int .i64 (kc : Nat)]) rfl (by kernel_rfl) ?_
            refine (CC.out _ (hr.out.next G0.out.sp.be)).mono ?_
            rintro e z1 ⟨rfl, hb⟩
            have G1 := Lib.hid (G0.out.next hb)
            have E1 := Lib.hid (E0.out.next hb)
            clear hb
            show K (Act.put _ (some 58) _) z1
            refine hK.out _ _ (⟨G1.out.sp.box, G1.out.cfg⟩) (fun hHeld1 => ?_)
            clear hK K
            simp only [Act.put, List.setIfInBounds_toArray, List.set_cons_zero, List.set_cons_succ]
            refine wpAnyH_take (i := 6) (v := .int .i64 (cntA r : Nat)) rfl (by kernel_rfl) (by kernel_rfl) (by kernel_rfl) (fun _ _ _ h => h) (Or.inl ⟨by rfl, fun w hSw => by obtain ⟨hB, hC⟩ := hSw; have c0 := HBox.c0 hB; have c1 := HBox.c1 hB; have c2 := HBox.c2 hB; have c3 := HBox.c3 hB; have c4 := HBox.c4 hB; obtain ⟨q0, q1, q2, q3, q4⟩ := cfg_cells hC; first | (go_simp; done) | (go_simp; exact wm) | (go_simp; rfl)⟩) (by assumption) ?_
            change wpAnyH _ _ _ _ _ _ _ (Act.put _ (some 59) _) _
            simp only [Act.put, List.setIfInBounds_toArray, List.set_cons_zero, List.set_cons_succ]
            refine wpAnyH_take (i := 7) (v := .bool false) rfl (by kernel_rfl) (by kernel_rfl) (by kernel_rfl) (fun _ _ _ h => h) (Or.inl ⟨by rfl, fun w hSw => by obtain ⟨hB, hC⟩ := hSw; have c0 := HBox.c0 hB; have c1 := HBox.c1 hB; have c2 := HBox.c2 hB; have c3 := HBox.c3 hB; have c4 := HBox.c4 hB; obtain ⟨q0, q1, q2, q3, q4⟩ := cfg_cells hC; first | (go_simp; done) | (go_simp; exact wm) | (go_simp; rfl)⟩) (by assumption) ?_
            change wpAnyH _ _ _ _ _ _ _ (Act.put _ (some 60) _) _
            simp only [Act.put, List.setIfInBounds_toArray, List.set_cons_zero, List.set_cons_succ]
            refine wpAnyH_take (i := 8) (v := .bool false) rfl (by kernel_rfl) (by kernel_rfl) (by kernel_rfl) (fun _ _ _ h => h) (Or.inl ⟨by rfl, fun w hSw => by obtain ⟨hB, hC⟩ := hSw; have c0 := HBox.c0 hB; have c1 := HBox.c1 hB; have c2 := HBox.c2 hB; have c3 := HBox.c3 hB; have c4 := HBox.c4 hB; obtain ⟨q0, q1, q2, q3, q4⟩ := cfg_cells hC; first | (go_simp; done) | (go_simp; exact wm) | (go_simp; rfl)⟩) (by assumption) ?_
            change wpAnyH _ _ _ _ _ _ _ (Act.put _ (some 61) _) _
            simp only [Act.put, List.setIfInBounds_toArray, List.set_cons_zero, List.set_cons_succ]
            refine wpAnyH_take (i := 9) (v := .agg #[.int .i64 W, .int .i64 (S : Nat), .int .i64 (B : Nat), .int .i64 T, .slice (some ⟨cb, 0, none⟩) len len]) rfl (by kernel_rfl) (by kernel_rfl) (by kernel_rfl) (fun _ _ _ h => h) (Or.inl ⟨by rfl, fun w hSw => by obtain ⟨hB, hC⟩ := hSw; have c0 := HBox.c0 hB; have c1 := HBox.c1 hB; have c2 := HBox.c2 hB; have c3 := HBox.c3 hB; have c4 := HBox.c4 hB; obtain ⟨q0, q1, q2, q3, q4⟩ := cfg_cells hC; first | (go_simp; done) | (go_simp; exact wm) | (go_simp; rfl)⟩) (by assumption) ?_
            change wpAnyH _ _ _ _ _ _ _ (Act.put _ (some 62) _) _
            simp only [Act.put, List.setIfInBounds_toArray, List.set_cons_zero, List.set_cons_succ]
            refine wpAnyH_take (i := 10) (v := .slice (some ⟨b, 0, none⟩) (2 * S) (2 * S)) rfl (by kernel_rfl) (by kernel_rfl) (by kernel_rfl) (fun _ _ _ h => h) (Or.inl ⟨by rfl, fun w hSw => by obtain ⟨hB, hC⟩ := hSw; have c0 := HBox.c0 hB; have c1 := HBox.c1 hB; have c2 := HBox.c2 hB; have c3 := HBox.c3 hB; have c4 := HBox.c4 hB; obtain ⟨q0, q1, q2, q3, q4⟩ := cfg_cells hC; first | (go_simp; done) | (go_simp; exact wm) | (go_simp; rfl)⟩) (by assumption) ?_
            change wpAnyH _ _ _ _ _ _ _ (Act.put _ (some 63) _) _
            simp only [Act.put, List.setIfInBounds_toArray, List.set_cons_zero, List.set_cons_succ]
            refine wpAnyH_take (i := 13) (v := .agg #[.int .u64 0, .int .u64 0]) rfl (by kernel_rfl) (by kernel_rfl) (by kernel_rfl) (fun _ _ _ h => h) (Or.inl ⟨by rfl, fun w hSw => by obtain ⟨hB, hC⟩ := hSw; have c0 := HBox.c0 hB; have c1 := HBox.c1 hB; have c2 := HBox.c2 hB; have c3 := HBox.c3 hB; have c4 := HBox.c4 hB; obtain ⟨q0, q1, q2, q3, q4⟩ := cfg_cells hC; first | (go_simp; done) | (go_simp; exact wm) | (go_simp; rfl)⟩) (by assumption) ?_
            change wpAnyH _ _ _ _ _ _ _ (Act.put _ (some 66) _) _
            simp only [Act.put, List.setIfInBounds_toArray, List.set_cons_zero, List.set_cons_succ]
            refine wpAnyH_ready (rs := [11]) (by kernel_rfl) (by simp) ?_
            refine AllReadyH.cons rfl (fun K hK => ?_) AllReadyH.nil
            refine step_enter (F := 26) (vals := #[.int .i64 1]) rfl (by kernel_rfl) ?_
            refine (TK.out _ G1.out.sp.fl).mono ?_
            rintro e z2 ⟨rfl, hb⟩
            have G2 := Lib.hid (G1.out.next hb)
            have E2 := Lib.hid (E1.out.next hb)
            clear hb
            show K (Act.put _ (some 64) _) z2
            refine hK.out _ _ (⟨G2.out.sp.box, G2.out.cfg⟩) (fun hHeld2 => ?_)
            clear hK K
            simp only [Act.put, List.setIfInBounds_toArray, List.set_cons_zero, List.set_cons_succ]
            refine wpAnyH_ready (rs := [12]) (by kernel_rfl) (by simp) ?_
            refine AllReadyH.cons rfl (fun K hK => ?_) AllReadyH.nil
            refine step_enter (F := 21) (vals := #[.agg #[.int .i64 W, .int .i64 (S : Nat), .int .i64 (B : Nat), .int .i64 T, .slice (some ⟨cb, 0, none⟩) len len], .slice (some ⟨b, 0, none⟩) (2 * S) (2 * S), .agg #[.int .u64 259, .int .u64 0]]) rfl (by kernel_rfl) ?_
            refine (AP2.out _ G2.out).mono ?_
            rintro e z3 ⟨rfl, hg, ho⟩
            have G3 := Lib.hid hg
            have E3 := Lib.hid (E2.out.stayB ho)
            clear hg ho
            show K (Act.put _ (some 65) _) z3
            refine hK.out _ _ (⟨G3.out.sp.box, G3.out.cfg⟩) (fun hHeld3 => ?_)
            clear hK K
            simp only [Act.put, List.setIfInBounds_toArray, List.set_cons_zero, List.set_cons_succ]
            refine wpAnyH_take (i := 14) (v := .bool false) rfl (by kernel_rfl) (by kernel_rfl) (by kernel_rfl) (fun _ _ _ h => h) (Or.inl ⟨by rfl, fun w hSw => by obtain ⟨hB, hC⟩ := hSw; have c0 := HBox.c0 hB; have c1 := HBox.c1 hB; have c2 := HBox.c2 hB; have c3 := HBox.c3 hB; have c4 := HBox.c4 hB; obtain ⟨q0, q1, q2, q3, q4⟩ := cfg_cells hC; first | (go_simp; done) | (go_simp; exact wm) | (go_simp; rfl)⟩) (by assumption) ?_
            change wpAnyH _ _ _ _ _ _ _ (Act.put _ (some 67) _) _
            simp only [Act.put, List.setIfInBounds_toArray, List.set_cons_zero, List.set_cons_succ]
            refine wpAnyH_take (i := 15) (v := .bool false) rfl (by kernel_rfl) (by kernel_rfl) (by kernel_rfl) (fun _ _ _ h => h) (Or.inl ⟨by rfl, fun w hSw => by obtain ⟨hB, hC⟩ := hSw; have c0 := HBox.c0 hB; have c1 := HBox.c1 hB; have c2 := HBox.c2 hB; have c3 := HBox.c3 hB; have c4 := HBox.c4 hB; obtain ⟨q0, q1, q2, q3, q4⟩ := cfg_cells hC; first | (go_simp; done) | (go_simp; exact wm) | (go_simp; rfl)⟩) (by assumption) ?_
            change wpAnyH _ _ _ _ _ _ _ (Act.put _ (some 68) _) _
            simp only [Act.put, List.setIfInBounds_toArray, List.set_cons_zero, List.set_cons_succ]
            refine ⟨by kernel_rfl, ?_⟩
            refine NoPanic.normal ?_
            go_wp2_with fail
            go_meet
            case rel => exact ⟨rfl, G3, E3⟩
          case rest =>
            obtain ⟨rfl, G3, E3⟩ := hcut
            clear G E G2 E2 X2 e0 e1 TK AP2 CC
            obtain ⟨va, vc, rfl⟩ := ORow.form E3.out.row
            go_wp2_with fail
            go_loopw [71] (fun u71 wq => ∃ j : Nat, j ≤ r.length ∧ u71 = .int .i64 (j : Nat) ∧ Hid (Well S LOW (r.drop j)) ∧ Hid (Su w wq M N b cb W T S B len ad cap f (stOf S kc LOW (r.drop j))) ∧ Hid (Or w wq (.slice va r.length vc) r M N b cb)) (fun u71 _ => r.length - (intOf u71).toNat)
            case atStart =>
              exact ⟨0, by omega, rfl, WL, G3, E3⟩
            case round =>
              obtain ⟨j, hj, rfl, WJ, G, E⟩ := hrel
              by_cases hlt : j < r.length
              · have l4 : (j : Int) < (r.length : Int) := by omega
                obtain ⟨⟨A, D⟩, hAD⟩ : ∃ x, r[j]? = some x := ⟨_, List.getElem?_eq_getElem hlt⟩
                have hdr : r.drop j = (A, D) :: r.drop (j + 1) := by
                  rw [List.drop_eq_getElem_cons hlt]; congr 1; exact (List.getElem?_eq_some_iff.1 hAD).2
                obtain ⟨vb, vcap, hv1, hv2, _⟩ := ORow.at opEnc E.out.row hAD
                cases hv1
                have q0 : _ = some (Value.int .u64 (A : Nat)) := hv2 0 _ rfl
                have q1 : _ = some (Value.int .u64 (D : Nat)) := hv2 1 _ rfl
                rw [Nat.add_zero] at q0
                rw [hdr] at G WJ
                have wl := WJ.out.1
                have wl2 := WJ.out.2.1
                have wl3 := WJ.out.2.2.2.2.1
                have WJ2 := Lib.hid WJ.out.2.2.2.2.2.2
                simp only at wl wl2 wl3
                have FS := flush_st (cap := capN len f) (S := S) (C := kc) hcp.2 (by rw [hLOW]; exact WJ.out)
                rw [hLOW] at FS
                simp only at FS
                have hAQ : askA 2 ((A : Int) - 1) = 2 + 256 * (A - 1) ∧ askB ((A : Int) - 1) D = D := by
                  unfold askA askB
                  rw [if_pos (by omega), if_pos (by omega)]
                  omega
                obtain ⟨AQ, hA1⟩ : ∃ AQ, 2 + 256 * (A - 1) = AQ := ⟨_, rfl⟩
                have FL : Hid (∀ y, FldAt y → Calls Tryd.prog 25 #[.int .i64 ((A : Int) - 1), .int .u64 (D : Nat)] y fun e y' => e = .returned (.agg #[.int .u64 (AQ : Nat), .int .u64 (D : Nat)]) ∧ Below y.heap.size y y') := fun y h => by
                  have := flushOp_any ((A : Int) - 1) D y (by omega) (by omega) (Lib.hid h)
                  rw [hAQ.1, hAQ.2, hA1] at this
                  exact this
                have hAP3 : appP (capN len f) B (stOf S kc LOW ((A, D) :: r.drop (j + 1))) (AQ, D) = (stOf S kc LOW (r.drop (j + 1)), (1, 0)) := by
                  rw [app2 (by omega) (by omega), show AQ / 256 = A - 1 from by omega, FS]
                have AP3 : Hid (∀ y, Su w y M N b cb W T S B len ad cap f (stOf S kc LOW ((A, D) :: r.drop (j + 1))) → Calls Tryd.prog 21 #[.agg #[.int .i64 W, .int .i64 (S : Nat), .int .i64 (B : Nat), .int .i64 T, .slice (some ⟨cb, 0, none⟩) len len], .slice (some ⟨b, 0, none⟩) (2 * S) (2 * S), .agg #[.int .u64 (AQ : Nat), .int .u64 (D : Nat)]] y fun e y' => e = .returned (.agg #[.int .u64 1, .int .u64 0]) ∧ Su w y' M N b cb W T S B len ad cap f (stOf S kc LOW (r.drop (j + 1))) ∧ Only [b] y y') := fun y h => by
                  have := h.apply (A := AQ) (D := D) (c := 2 * S) (by omega) wl3
                  rw [hAP3] at this
                  exact this
                have wA : IntKind.i64.wrap (A : Int) = (A : Int) := by rw [IntKind.wrap_i64]; omega
                have wA1 : IntKind.i64.wrap ((A : Int) - 1) = (A : Int) - 1 := by rw [IntKind.wrap_i64]; omega
                have wj : IntKind.i64.wrap ((j : Int) + 1) = (j : Int) + 1 := by rw [IntKind.wrap_i64]; omega
                clear FS hAQ hA1 hAP3 WJ
                have AB := Lib.hid (box1 wr (.cells #[.int .u64 (A : Nat), .int .u64 (D : Nat)] 37))
                have V3 := Lib.hid (heap_new wr (.cells #[.int .u64 (A : Nat), .int .u64 (D : Nat)] 37))
                have G0 := Lib.hid (G.out.next AB.out)
                have E0 := Lib.hid (E.out.next AB.out)
                have ne0 := G.out.sp.be.size
                have ne1 := heap_lt G.out.sp.box
                have ne2 := G.out.sp.hw.lt
                have ne3 := heap_lt G.out.sp.row
                have Y0 : Hid (Bx w (wr.alloc (.cells #[.int .u64 (A : Nat), .int .u64 (D : Nat)] 37)) wr.heap.size A D N b cb) := ⟨V3.out, by omega⟩
                go_upto_region 21 with fail
                clear G E AB V3 q0 q1 hv2
                generalize wr.alloc (.cells #[.int .u64 (A : Nat), .int .u64 (D : Nat)] 37) = wq2 at *
                generalize wr.heap.size = n2 at *
                have G := G0
                have E := E0
                have Y := Y0
                clear G0 E0 Y0
                go_cut [86] (fun u86 wx => u86 = .bool false ∧ Hid (Su w wx M N b cb W T S B len ad cap f (stOf S kc LOW (r.drop (j + 1)))) ∧ Hid (Or w wx (.slice (some ⟨vb, 0, none⟩) r.length vc) r M N b cb))
                case first =>
                  refine wp_region_noPanic ?_
                  refine wp_region_held_drew (S := fun w' => HBox w' N W (S : Nat) (B : Nat) T (.slice (some ⟨cb, 0, none⟩) len len) ∧ w'.cell? ⟨n2, 0, none⟩ = some (.int .u64 (A : Nat)) ∧ w'.cell? ⟨n2, 1, none⟩ = some (.int .u64 (D : Nat))) (by kernel_rfl) (⟨G.out.sp.box, (Lib.hid (Y.out.next ((Below.refl _ _).drew))).out.op.c0, (Lib.hid (Y.out.next ((Below.refl _ _).drew))).out.op.c1⟩) (fun hHeld => ?_)
                  have DR := (Below.refl wq2.heap.size wq2).drew
                  have G0 := Lib.hid (G.out.next DR)
                  have E0 := Lib.hid (E.out.next DR)
                  have Y0 := Lib.hid (Y.out.next DR)
                  clear DR
                  generalize wq2.drew = z0 at *
                  refine wpAnyH_take (i := 0) (v := .agg #[.int .i64 W, .int .i64 (S : Nat), .int .i64 (B : Nat), .int .i64 T, .slice (some ⟨cb, 0, none⟩) len len]) rfl (by kernel_rfl) (by kernel_rfl) (by kernel_rfl) (fun _ _ _ h => h) (Or.inl ⟨by rfl, fun w hSw => by obtain ⟨hB, hC0, hC1⟩ := hSw; have c0 := HBox.c0 hB; have c1 := HBox.c1 hB; have c2 := HBox.c2 hB; have c3 := HBox.c3 hB; have c4 := HBox.c4 hB; first | (go_simp; done) | (go_simp; exact wA) | (go_simp; exact wA1) | (go_simp; rfl)⟩) (by assumption) ?_
                  change wpAnyH _ _ _ _ _ _ _ (Act.put _ (some 75) _) _
                  simp only [Act.put, List.setIfInBounds_toArray, List.set_cons_zero, List.set_cons_succ]
                  refine wpAnyH_take (i := 1) (v := .slice (some ⟨b, 0, none⟩) (2 * S) (2 * S)) rfl (by kernel_rfl) (by kernel_rfl) (by kernel_rfl) (fun _ _ _ h => h) (Or.inl ⟨by rfl, fun w hSw => by obtain ⟨hB, hC0, hC1⟩ := hSw; have c0 := HBox.c0 hB; have c1 := HBox.c1 hB; have c2 := HBox.c2 hB; have c3 := HBox.c3 hB; have c4 := HBox.c4 hB; first | (go_simp; done) | (go_simp; exact wA) | (go_simp; exact wA1) | (go_simp; rfl)⟩) (by assumption) ?_
                  change wpAnyH _ _ _ _ _ _ _ (Act.put _ (some 76) _) _
                  simp only [Act.put, List.setIfInBounds_toArray, List.set_cons_zero, List.set_cons_succ]
                  refine wpAnyH_take (i := 2) (v := .pointer (some ⟨n2, 0, none⟩)) rfl (by kernel_rfl) (by kernel_rfl) (by kernel_rfl) (fun _ _ _ h => h) (Or.inl ⟨by rfl, fun w hSw => by obtain ⟨hB, hC0, hC1⟩ := hSw; have c0 := HBox.c0 hB; have c1 := HBox.c1 hB; have c2 := HBox.c2 hB; have c3 := HBox.c3 hB; have c4 := HBox.c4 hB; first | (go_simp; done) | (go_simp; exact wA) | (go_simp; exact wA1) | (go_simp; rfl)⟩) (by assumption) ?_
                  change wpAnyH _ _ _ _ _ _ _ (Act.put _ (some 77) _) _
                  simp only [Act.put, List.setIfInBounds_toArray, List.set_cons_zero, List.set_cons_succ]
                  refine wpAnyH_take (i := 3) (v := .int .u64 (A : Nat)) rfl (by kernel_rfl) (by kernel_rfl) (by kernel_rfl) (fun _ _ _ h => h) (Or.inl ⟨by rfl, fun w hSw => by obtain ⟨hB, hC0, hC1⟩ := hSw; have c0 := HBox.c0 hB; have c1 := HBox.c1 hB; have c2 := HBox.c2 hB; have c3 := HBox.c3 hB; have c4 := HBox.c4 hB; first | (go_simp; done) | (go_simp; exact wA) | (go_simp; exact wA1) | (go_simp; rfl)⟩) (by assumption) ?_
                  change wpAnyH _ _ _ _ _ _ _ (Act.put _ (some 78) _) _
                  simp only [Act.put, List.setIfInBounds_toArray, List.set_cons_zero, List.set_cons_succ]
                  refine wpAnyH_take (i := 4) (v := .int .i64 (A : Nat)) rfl (by kernel_rfl) (by kernel_rfl) (by kernel_rfl) (fun _ _ _ h => h) (Or.inl ⟨by rfl, fun w hSw => by obtain ⟨hB, hC0, hC1⟩ := hSw; have c0 := HBox.c0 hB; have c1 := HBox.c1 hB; have c2 := HBox.c2 hB; have c3 := HBox.c3 hB; have c4 := HBox.c4 hB; first | (go_simp; done) | (go_simp; exact wA) | (go_simp; exact wA1) | (go_simp; rfl)⟩) (by assumption) ?_
                  change wpAnyH _ _ _ _ _ _ _ (Act.put _ (some 79) _) _
                  simp only [Act.put, List.setIfInBounds_toArray, List.set_cons_zero, List.set_cons_succ]
                  refine wpAnyH_take (i := 5) (v := .int .i64 ((A : Int) - 1)) rfl (by kernel_rfl) (by kernel_rfl) (by kernel_rfl) (fun _ _ _ h => h) (Or.inl ⟨by rfl, fun w hSw => by obtain ⟨hB, hC0, hC1⟩ := hSw; have c0 := HBox.c0 hB; have c1 := HBox.c1 hB; have c2 := HBox.c2 hB; have c3 := HBox.c3 hB; have c4 := HBox.c4 hB; first | (go_simp; done) | (go_simp; exact wA) | (go_simp; exact wA1) | (go_simp; rfl)⟩) (by assumption) ?_
                  change wpAnyH _ _ _ _ _ _ _ (Act.put _ (some 80) _) _
                  simp only [Act.put, List.setIfInBounds_toArray, List.set_cons_zero, List.set_cons_succ]
                  refine wpAnyH_take (i := 6) (v := .pointer (some ⟨n2, 1, none⟩)) rfl (by kernel_rfl) (by kernel_rfl) (by kernel_rfl) (fun _ _ _ h => h) (Or.inl ⟨by rfl, fun w hSw => by obtain ⟨hB, hC0, hC1⟩ := hSw; have c0 := HBox.c0 hB; have c1 := HBox.c1 hB; have c2 := HBox.c2 hB; have c3 := HBox.c3 hB; have c4 := HBox.c4 hB; first | (go_simp; done) | (go_simp; exact wA) | (go_simp; exact wA1) | (go_simp; rfl)⟩) (by assumption) ?_
                  change wpAnyH _ _ _ _ _ _ _ (Act.put _ (some 81) _) _
                  simp only [Act.put, List.setIfInBounds_toArray, List.set_cons_zero, List.set_cons_succ]
                  refine wpAnyH_take (i := 7) (v := .int .u64 (D : Nat)) rfl (by kernel_rfl) (by kernel_rfl) (by kernel_rfl) (fun _ _ _ h => h) (Or.inl ⟨by rfl, fun w hSw => by obtain ⟨hB, hC0, hC1⟩ := hSw; have c0 := HBox.c0 hB; have c1 := HBox.c1 hB; have c2 := HBox.c2 hB; have c3 := HBox.c3 hB; have c4 := HBox.c4 hB; first | (go_simp; done) | (go_simp; exact wA) | (go_simp; exact wA1) | (go_simp; rfl)⟩) (by assumption) ?_
                  change wpAnyH _ _ _ _ _ _ _ (Act.put _ (some 82) _) _
                  simp only [Act.put, List.setIfInBounds_toArray, List.set_cons_zero, List.set_cons_succ]
                  refine wpAnyH_ready (rs := [8]) (by kernel_rfl) (by simp) ?_
                  refine AllReadyH.cons rfl (fun K hK => ?_) AllReadyH.nil
                  refine step_enter (F := 25) (vals := #[.int .i64 ((A : Int) - 1), .int .u64 (D : Nat)]) rfl (by kernel_rfl) ?_
                  refine (FL.out _ G0.out.sp.fl).mono ?_
                  rintro e z1 ⟨rfl, hb⟩
                  have G1 := Lib.hid (G0.out.next hb)
                  have E1 := Lib.hid (E0.out.next hb)
                  have Y1 := Lib.hid (Y0.out.next hb)
                  clear hb
                  show K (Act.put _ (some 83) _) z1
                  refine hK.out _ _ (⟨G1.out.sp.box, Y1.out.op.c0, Y1.out.op.c1⟩) (fun hHeld1 => ?_)
                  clear hK K
                  simp only [Act.put, List.setIfInBounds_toArray, List.set_cons_zero, List.set_cons_succ]
                  refine wpAnyH_ready (rs := [9]) (by kernel_rfl) (by simp) ?_
                  refine AllReadyH.cons rfl (fun K hK => ?_) AllReadyH.nil
                  refine step_enter (F := 21) (vals := #[.agg #[.int .i64 W, .int .i64 (S : Nat), .int .i64 (B : Nat), .int .i64 T, .slice (some ⟨cb, 0, none⟩) len len], .slice (some ⟨b, 0, none⟩) (2 * S) (2 * S), .agg #[.int .u64 (AQ : Nat), .int .u64 (D : Nat)]]) rfl (by kernel_rfl) ?_
                  refine (AP3.out _ G1.out).mono ?_
                  rintro e z2 ⟨rfl, hg, ho⟩
                  have G2 := Lib.hid hg
                  have E2 := Lib.hid (E1.out.stayB ho)
                  have Y2 := Lib.hid (Y1.out.stay ho (by have := Y1.out.ne; simp; omega))
                  clear hg ho
                  show K (Act.put _ (some 84) _) z2
                  refine hK.out _ _ (⟨G2.out.sp.box, Y2.out.op.c0, Y2.out.op.c1⟩) (fun hHeld2 => ?_)
                  clear hK K
                  simp only [Act.put, List.setIfInBounds_toArray, List.set_cons_zero, List.set_cons_succ]
                  refine wpAnyH_take (i := 10) (v := .int .u64 1) rfl (by kernel_rfl) (by kernel_rfl) (by kernel_rfl) (fun _ _ _ h => h) (Or.inl ⟨by rfl, fun w hSw => by obtain ⟨hB, hC0, hC1⟩ := hSw; have c0 := HBox.c0 hB; have c1 := HBox.c1 hB; have c2 := HBox.c2 hB; have c3 := HBox.c3 hB; have c4 := HBox.c4 hB; first | (go_simp; done) | (go_simp; exact wA) | (go_simp; exact wA1) | (go_simp; rfl)⟩) (by assumption) ?_
                  change wpAnyH _ _ _ _ _ _ _ (Act.put _ (some 85) _) _
                  simp only [Act.put, List.setIfInBounds_toArray, List.set_cons_zero, List.set_cons_succ]
                  refine wpAnyH_take (i := 11) (v := .bool false) rfl (by kernel_rfl) (by kernel_rfl) (by kernel_rfl) (fun _ _ _ h => h) (Or.inl ⟨by rfl, fun w hSw => by obtain ⟨hB, hC0, hC1⟩ := hSw; have c0 := HBox.c0 hB; have c1 := HBox.c1 hB; have c2 := HBox.c2 hB; have c3 := HBox.c3 hB; have c4 := HBox.c4 hB; first | (go_simp; done) | (go_simp; exact wA) | (go_simp; exact wA1) | (go_simp; rfl)⟩) (by assumption) ?_
                  change wpAnyH _ _ _ _ _ _ _ (Act.put _ (some 86) _) _
                  simp only [Act.put, List.setIfInBounds_toArray, List.set_cons_zero, List.set_cons_succ]
                  refine ⟨by kernel_rfl, ?_⟩
                  refine NoPanic.normal ?_
                  go_wp2_with fail
                  go_meet
                  case rel => exact ⟨rfl, G2, E2⟩
                case rest =>
                  obtain ⟨rfl, G4, E4⟩ := hcut
                  go_wp2_with fail
                  go_roundw
                  case rel => exact ⟨j + 1, by omega, by push_cast; rfl, WJ2, G4, E4⟩
                  case measure => simp [intOf]; omega
              · obtain rfl : j = r.length := by omega
                rw [List.drop_length, stOf_nil] at G
                obtain ⟨c0, c1, c2, c3, c4⟩ := cfg_cells G.out.cfg
                have SMC : Hid (∀ y v, HW y b (List.replicate S Sb.none) [] → RS y v (List.replicate S Sb.none) → FldAt y → Calls Tryd.prog 20 #[.slice (some ⟨b, 0, none⟩) (2 * S) (2 * S), v] y fun e w' => e = .returned (.bool true) ∧ Below y.heap.size y w') := fun y v h1 h2 h3 => by
                  have := same11_yes b (2 * S) v (List.replicate S Sb.none) [] y (Lib.hid h1) (Lib.hid h2) (Lib.hid h3)
                  rw [List.length_replicate] at this
                  exact this
                have hAQ3 : askA 3 ((S : Nat) : Int) = 3 + 256 * S ∧ askB ((S : Nat) : Int) 0 = 0 := by
                  unfold askA askB
                  rw [if_pos (by omega), if_pos (by omega)]
                  simp
                obtain ⟨AQ3, hA3⟩ : ∃ AQ3, 3 + 256 * S = AQ3 := ⟨_, rfl⟩
                have TK3 : Hid (∀ y, FldAt y → Calls Tryd.prog 26 #[.int .i64 ((S : Nat) : Int)] y fun e y' => e = .returned (.agg #[.int .u64 (AQ3 : Nat), .int .u64 0]) ∧ Below y.heap.size y y') := fun y h => by
                  have := takeOp_any ((S : Nat) : Int) y (by omega) (by omega) (Lib.hid h)
                  rw [hAQ3.1, hAQ3.2, hA3] at this
                  exact this
                have hA4 : (appP (capN len f) B (List.replicate S Sb.none) (AQ3, 0)).2 = (1, 0) := by
                  rw [app3 (by omega) (by omega), show AQ3 / 256 = S from by omega]
                  exact take_all (by omega)
                obtain ⟨LF, hLF⟩ : ∃ LF, (appP (capN len f) B (List.replicate S Sb.none) (AQ3, 0)).1 = LF := ⟨_, rfl⟩
                have AP4 : Hid (∀ y, Su w y M N b cb W T S B len ad cap f (List.replicate S Sb.none) → Calls Tryd.prog 21 #[.agg #[.int .i64 W, .int .i64 (S : Nat), .int .i64 (B : Nat), .int .i64 T, .slice (some ⟨cb, 0, none⟩) len len], .slice (some ⟨b, 0, none⟩) (2 * S) (2 * S), .agg #[.int .u64 (AQ3 : Nat), .int .u64 0]] y fun e y' => e = .returned (.agg #[.int .u64 1, .int .u64 0]) ∧ Su w y' M N b cb W T S B len ad cap f (LF) ∧ Only [b] y y') := fun y h => by
                  have := h.apply (A := AQ3) (D := 0) (c := 2 * S) (by omega) (by decide)
                  rw [hA4, hLF] at this
                  exact this
                clear hA4 hLF hAQ3 hA3
                go_wp2_with fail
                clear c0 c1 c2 c3 c4
                refine wp_region_noPanic ?_
                refine wp_region_held_drew (S := fun w' => HBox w' N W (S : Nat) (B : Nat) T (.slice (some ⟨cb, 0, none⟩) len len) ∧ Cfg5 w' M W (S : Nat) (B : Nat) T (.slice ad len cap)) (by kernel_rfl) (⟨G.out.sp.box, G.out.cfg⟩) (fun hHeld => ?_)
                have DR := (Below.refl wr.heap.size wr).drew
                have G0 := Lib.hid (G.out.next DR)
                clear DR
                generalize wr.drew = z0 at *
                refine wpAnyH_take (i := 0) (v := .slice (some ⟨b, 0, none⟩) (2 * S) (2 * S)) rfl (by kernel_rfl) (by kernel_rfl) (by kernel_rfl) (fun _ _ _ h => h) (Or.inl ⟨by rfl, fun w hSw => by obtain ⟨hB, hC⟩ := hSw; have c0 := HBox.c0 hB; have c1 := HBox.c1 hB; have c2 := HBox.c2 hB; have c3 := HBox.c3 hB; have c4 := HBox.c4 hB; obtain ⟨q0, q1, q2, q3, q4⟩ := cfg_cells hC; first | (go_simp; done) | (go_simp; rfl)⟩) (by assumption) ?_
                change wpAnyH _ _ _ _ _ _ _ (Act.put _ (some 88) _) _
                simp only [Act.put, List.setIfInBounds_toArray, List.set_cons_zero, List.set_cons_succ]
                refine wpAnyH_take (i := 1) (v := .agg #[.int .i64 W, .int .i64 (S : Nat), .int .i64 (B : Nat), .int .i64 T, .slice ad len cap]) rfl (by kernel_rfl) (by kernel_rfl) (by kernel_rfl) (fun _ _ _ h => h) (Or.inl ⟨by rfl, fun w hSw => by obtain ⟨hB, hC⟩ := hSw; have c0 := HBox.c0 hB; have c1 := HBox.c1 hB; have c2 := HBox.c2 hB; have c3 := HBox.c3 hB; have c4 := HBox.c4 hB; obtain ⟨q0, q1, q2, q3, q4⟩ := cfg_cells hC; first | (go_simp; done) | (go_simp; rfl)⟩) (by assumption) ?_
                change wpAnyH _ _ _ _ _ _ _ (Act.put _ (some 89) _) _
                simp only [Act.put, List.setIfInBounds_toArray, List.set_cons_zero, List.set_cons_succ]
                refine wpAnyH_ready (rs := [2]) (by kernel_rfl) (by simp) ?_
                refine AllReadyH.cons rfl (fun K hK => ?_) AllReadyH.nil
                refine step_enter (F := 17) (vals := #[.agg #[.int .i64 W, .int .i64 (S : Nat), .int .i64 (B : Nat), .int .i64 T, .slice ad len cap]]) rfl (by kernel_rfl) ?_
                refine (rnew11_any W T S B _ _ (by omega)).mono ?_
                rintro e z1 ⟨vn, rfl, RN, hb⟩
                have RN' := Lib.hid RN
                have G1 := Lib.hid (G0.out.next hb)
                clear hb RN
                show K (Act.put _ (some 90) _) z1
                refine hK.out _ _ (⟨G1.out.sp.box, G1.out.cfg⟩) (fun hHeld1 => ?_)
                clear hK K
                simp only [Act.put, List.setIfInBounds_toArray, List.set_cons_zero, List.set_cons_succ]
                refine wpAnyH_ready (rs := [3]) (by kernel_rfl) (by simp) ?_
                refine AllReadyH.cons rfl (fun K hK => ?_) AllReadyH.nil
                refine step_enter (F := 20) (vals := #[.slice (some ⟨b, 0, none⟩) (2 * S) (2 * S), vn]) rfl (by kernel_rfl) ?_
                refine (SMC.out _ vn G1.out.sp.hw RN'.out G1.out.sp.fl).mono ?_
                rintro e z2 ⟨rfl, hb⟩
                have G2 := Lib.hid (G1.out.next hb)
                clear hb
                show K (Act.put _ (some 91) _) z2
                refine hK.out _ _ (⟨G2.out.sp.box, G2.out.cfg⟩) (fun hHeld2 => ?_)
                clear hK K
                simp only [Act.put, List.setIfInBounds_toArray, List.set_cons_zero, List.set_cons_succ]
                refine wpAnyH_take (i := 4) (v := .bool true) rfl (by kernel_rfl) (by kernel_rfl) (by kernel_rfl) (fun _ _ _ h => h) (Or.inl ⟨by rfl, fun w hSw => by obtain ⟨hB, hC⟩ := hSw; have c0 := HBox.c0 hB; have c1 := HBox.c1 hB; have c2 := HBox.c2 hB; have c3 := HBox.c3 hB; have c4 := HBox.c4 hB; obtain ⟨q0, q1, q2, q3, q4⟩ := cfg_cells hC; first | (go_simp; done) | (go_simp; rfl)⟩) (by assumption) ?_
                change wpAnyH _ _ _ _ _ _ _ (Act.put _ (some 92) _) _
                simp only [Act.put, List.setIfInBounds_toArray, List.set_cons_zero, List.set_cons_succ]
                refine wpAnyH_take (i := 5) (v := .agg #[.int .i64 W, .int .i64 (S : Nat), .int .i64 (B : Nat), .int .i64 T, .slice (some ⟨cb, 0, none⟩) len len]) rfl (by kernel_rfl) (by kernel_rfl) (by kernel_rfl) (fun _ _ _ h => h) (Or.inl ⟨by rfl, fun w hSw => by obtain ⟨hB, hC⟩ := hSw; have c0 := HBox.c0 hB; have c1 := HBox.c1 hB; have c2 := HBox.c2 hB; have c3 := HBox.c3 hB; have c4 := HBox.c4 hB; obtain ⟨q0, q1, q2, q3, q4⟩ := cfg_cells hC; first | (go_simp; done) | (go_simp; rfl)⟩) (by assumption) ?_
                change wpAnyH _ _ _ _ _ _ _ (Act.put _ (some 93) _) _
                simp only [Act.put, List.setIfInBounds_toArray, List.set_cons_zero, List.set_cons_succ]
                refine wpAnyH_take (i := 6) (v := .slice (some ⟨b, 0, none⟩) (2 * S) (2 * S)) rfl (by kernel_rfl) (by kernel_rfl) (by kernel_rfl) (fun _ _ _ h => h) (Or.inl ⟨by rfl, fun w hSw => by obtain ⟨hB, hC⟩ := hSw; have c0 := HBox.c0 hB; have c1 := HBox.c1 hB; have c2 := HBox.c2 hB; have c3 := HBox.c3 hB; have c4 := HBox.c4 hB; obtain ⟨q0, q1, q2, q3, q4⟩ := cfg_cells hC; first | (go_simp; done) | (go_simp; rfl)⟩) (by assumption) ?_
                change wpAnyH _ _ _ _ _ _ _ (Act.put _ (some 94) _) _
                simp only [Act.put, List.setIfInBounds_toArray, List.set_cons_zero, List.set_cons_succ]
                refine wpAnyH_take (i := 7) (v := .pointer (some ⟨M, 1, none⟩)) rfl (by kernel_rfl) (by kernel_rfl) (by kernel_rfl) (fun _ _ _ h => h) (Or.inl ⟨by rfl, fun w hSw => by obtain ⟨hB, hC⟩ := hSw; have c0 := HBox.c0 hB; have c1 := HBox.c1 hB; have c2 := HBox.c2 hB; have c3 := HBox.c3 hB; have c4 := HBox.c4 hB; obtain ⟨q0, q1, q2, q3, q4⟩ := cfg_cells hC; first | (go_simp; done) | (go_simp; rfl)⟩) (by assumption) ?_
                change wpAnyH _ _ _ _ _ _ _ (Act.put _ (some 95) _) _
                simp only [Act.put, List.setIfInBounds_toArray, List.set_cons_zero, List.set_cons_succ]
                refine wpAnyH_take (i := 8) (v := .int .i64 (S : Nat)) rfl (by kernel_rfl) (by kernel_rfl) (by kernel_rfl) (fun _ _ _ h => h) (Or.inl ⟨by rfl, fun w hSw => by obtain ⟨hB, hC⟩ := hSw; have c0 := HBox.c0 hB; have c1 := HBox.c1 hB; have c2 := HBox.c2 hB; have c3 := HBox.c3 hB; have c4 := HBox.c4 hB; obtain ⟨q0, q1, q2, q3, q4⟩ := cfg_cells hC; first | (go_simp; done) | (go_simp; rfl)⟩) (by assumption) ?_
                change wpAnyH _ _ _ _ _ _ _ (Act.put _ (some 96) _) _
                simp only [Act.put, List.setIfInBounds_toArray, List.set_cons_zero, List.set_cons_succ]
                refine wpAnyH_take (i := 11) (v := .agg #[.int .u64 1, .int .u64 0]) rfl (by kernel_rfl) (by kernel_rfl) (by kernel_rfl) (fun _ _ _ h => h) (Or.inl ⟨by rfl, fun w hSw => by obtain ⟨hB, hC⟩ := hSw; have c0 := HBox.c0 hB; have c1 := HBox.c1 hB; have c2 := HBox.c2 hB; have c3 := HBox.c3 hB; have c4 := HBox.c4 hB; obtain ⟨q0, q1, q2, q3, q4⟩ := cfg_cells hC; first | (go_simp; done) | (go_simp; rfl)⟩) (by assumption) ?_
                change wpAnyH _ _ _ _ _ _ _ (Act.put _ (some 99) _) _
                simp only [Act.put, List.setIfInBounds_toArray, List.set_cons_zero, List.set_cons_succ]
                refine wpAnyH_ready (rs := [9]) (by kernel_rfl) (by simp) ?_
                refine AllReadyH.cons rfl (fun K hK => ?_) AllReadyH.nil
                refine step_enter (F := 26) (vals := #[.int .i64 (S : Nat)]) rfl (by kernel_rfl) ?_
                refine (TK3.out _ G2.out.sp.fl).mono ?_
                rintro e z3 ⟨rfl, hb⟩
                have G3 := Lib.hid (G2.out.next hb)
                clear hb
                show K (Act.put _ (some 97) _) z3
                refine hK.out _ _ (⟨G3.out.sp.box, G3.out.cfg⟩) (fun hHeld3 => ?_)
                clear hK K
                simp only [Act.put, List.setIfInBounds_toArray, List.set_cons_zero, List.set_cons_succ]
                refine wpAnyH_ready (rs := [10]) (by kernel_rfl) (by simp) ?_
                refine AllReadyH.cons rfl (fun K hK => ?_) AllReadyH.nil
                refine step_enter (F := 21) (vals := #[.agg #[.int .i64 W, .int .i64 (S : Nat), .int .i64 (B : Nat), .int .i64 T, .slice (some ⟨cb, 0, none⟩) len len], .slice (some ⟨b, 0, none⟩) (2 * S) (2 * S), .agg #[.int .u64 (AQ3 : Nat), .int .u64 0]]) rfl (by kernel_rfl) ?_
                refine (AP4.out _ G3.out).mono ?_
                rintro e z4 ⟨rfl, hg, ho⟩
                have G4 := Lib.hid hg
                clear hg ho
                show K (Act.put _ (some 98) _) z4
                refine hK.out _ _ (⟨G4.out.sp.box, G4.out.cfg⟩) (fun hHeld4 => ?_)
                clear hK K
                simp only [Act.put, List.setIfInBounds_toArray, List.set_cons_zero, List.set_cons_succ]
                refine wpAnyH_take (i := 12) (v := .bool true) rfl (by kernel_rfl) (by kernel_rfl) (by kernel_rfl) (fun _ _ _ h => h) (Or.inl ⟨by rfl, fun w hSw => by obtain ⟨hB, hC⟩ := hSw; have c0 := HBox.c0 hB; have c1 := HBox.c1 hB; have c2 := HBox.c2 hB; have c3 := HBox.c3 hB; have c4 := HBox.c4 hB; obtain ⟨q0, q1, q2, q3, q4⟩ := cfg_cells hC; first | (go_simp; done) | (go_simp; rfl)⟩) (by assumption) ?_
                change wpAnyH _ _ _ _ _ _ _ (Act.put _ (some 100) _) _
                simp only [Act.put, List.setIfInBounds_toArray, List.set_cons_zero, List.set_cons_succ]
                refine wpAnyH_take (i := 13) (v := .bool true) rfl (by kernel_rfl) (by kernel_rfl) (by kernel_rfl) (fun _ _ _ h => h) (Or.inl ⟨by rfl, fun w hSw => by obtain ⟨hB, hC⟩ := hSw; have c0 := HBox.c0 hB; have c1 := HBox.c1 hB; have c2 := HBox.c2 hB; have c3 := HBox.c3 hB; have c4 := HBox.c4 hB; obtain ⟨q0, q1, q2, q3, q4⟩ := cfg_cells hC; first | (go_simp; done) | (go_simp; rfl)⟩) (by assumption) ?_
                change wpAnyH _ _ _ _ _ _ _ (Act.put _ (some 101) _) _
                simp only [Act.put, List.setIfInBounds_toArray, List.set_cons_zero, List.set_cons_succ]
                refine wpAnyH_take (i := 14) (v := .bool true) rfl (by kernel_rfl) (by kernel_rfl) (by kernel_rfl) (fun _ _ _ h => h) (Or.inl ⟨by rfl, fun w hSw => by obtain ⟨hB, hC⟩ := hSw; have c0 := HBox.c0 hB; have c1 := HBox.c1 hB; have c2 := HBox.c2 hB; have c3 := HBox.c3 hB; have c4 := HBox.c4 hB; obtain ⟨q0, q1, q2, q3, q4⟩ := cfg_cells hC; first | (go_simp; done) | (go_simp; rfl)⟩) (by assumption) ?_
                change wpAnyH _ _ _ _ _ _ _ (Act.put _ (some 4) _) _
                simp only [Act.put, List.setIfInBounds_toArray, List.set_cons_zero, List.set_cons_succ]
                refine ⟨by kernel_rfl, ?_⟩
                refine NoPanic.normal ?_
                go_wp2_with fail
                go_ret
                exact ⟨rfl, G4.out.sp.be⟩

set_option maxRecDepth 20000 in
set_option maxHeartbeats 4000000 in
theorem hback_no (W S B T : Int) (ad : Option Addr) (len cap : Nat) (f : Nat → Int) (cl : Nat) (w : World) (hr : Hid (RowI w ad len f)) (hl : len < 9223372036854775808) (hF : Hid (FldAt w)) (hm : Hid (mayB W S B T len f = false)) :
    Calls Tryd.prog 6 #[.agg #[.int .i64 W, .int .i64 S, .int .i64 B, .int .i64 T, .slice ad len cap], .int .u8 (cl : Nat)] w fun e w' => e = .returned (.bool true) ∧ Below w.heap.size w w' := by
  have K0 : Hid (Ar w (w.alloc (.cells #[.int .i64 W, .int .i64 S, .int .i64 B, .int .i64 T, .slice ad len cap] 24)) w.heap.size W S B T ad len cap f) := Ar.start hr.out
  have F0 := Lib.hid (hF.out.next (box1 w (.cells #[.int .i64 W, .int .i64 S, .int .i64 B, .int .i64 T, .slice ad len cap] 24)))
  go_enter Tryd.func6, Tryd.ntmps6
  go_wp2_with fail
  generalize w.alloc (.cells #[.int .i64 W, .int .i64 S, .int .i64 B, .int .i64 T, .slice ad len cap] 24) = w0 at *
  generalize hM : w.heap.size = M at *
  refine (speaks11 _ F0).mono ?_
  rintro e wa ⟨rfl, hb⟩
  have K1 := Lib.hid (K0.out.next hb)
  clear hb K0 F0
  obtain ⟨c0, c1, c2, c3, c4⟩ := cfg_cells K1.out.c
  go_wp2_with fail
  refine (rmay_any W S B T ad len cap f _ (Lib.hid K1.out.r) hl).mono ?_
  rintro e wb ⟨he, hb⟩
  obtain rfl : e = .returned (.bool false) := by rw [he, hm.out]
  have K2 := Lib.hid (K1.out.next hb)
  clear hb K1 c0 c1 c2 c3 c4 he
  go_wp2_with fail
  go_ret
  exact ⟨rfl, by rw [hM]; exact K2.out.b⟩

theorem hback_walk (W S B T : Int) (ad : Option Addr) (len cap : Nat) (f : Nat → Int) (cl : Nat) (w : World) (hr : RowI w ad len f) (hl : len < 9223372036854775808) (hc : cl < 256) (hF : FldAt w) :
    Calls Tryd.prog 6 #[.agg #[.int .i64 W, .int .i64 S, .int .i64 B, .int .i64 T, .slice ad len cap], .int .u8 (cl : Nat)] w fun e w' => e = .returned (.bool true) ∧ Below w.heap.size w w' := by
  rcases h : mayB W S B T len f with _ | _
  · exact hback_no W S B T ad len cap f cl w hr hl hF h
  · obtain ⟨_, ⟨s1, _⟩, ⟨b1, _⟩, _⟩ := may_nums h
    obtain ⟨S, rfl⟩ := Int.eq_ofNat_of_zero_le (show 0 ≤ S by omega)
    obtain ⟨B, rfl⟩ := Int.eq_ofNat_of_zero_le (show 0 ≤ B by omega)
    exact hback_yes W T S B ad len cap f cl w hr hl hc hF h
end Go.Proofs.YtcgjmigdpilgpaaDoor
