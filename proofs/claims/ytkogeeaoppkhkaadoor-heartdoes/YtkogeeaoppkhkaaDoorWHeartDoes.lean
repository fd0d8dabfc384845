/-
  The walk of HeartDoes: whatever is asked, each answer, and all superblocks behind it, are the document's.
-/
import Derived.Test.YtkogeeaoppkhkaaDoorHeartJ
import Derived.Test.YtkogeeaoppkhkaaDoorHeart9
namespace Go.Proofs.YtkogeeaoppkhkaaDoor
open Go.RowKit Go.Sort Go.Shelf

set_option maxRecDepth 20000 in
set_option maxHeartbeats 8000000 in
theorem hdoes_no (W S B T : Int) (ad : Option Addr) (len cap : Nat) (f : Nat → Int) (aa : Option Addr) (n c : Nat) (w : World) (hr : Hid (RowI w ad len f)) (hl : len < 9223372036854775808) (hF : Hid (FldAt w)) (hm : Hid (mayB W S B T len f = false))  :
    Calls Tryd.prog 3 #[.agg #[.int .i64 W, .int .i64 S, .int .i64 B, .int .i64 T, .slice ad len cap], .slice aa n c] w fun e w' => e = .returned (.bool true) ∧ Below w.heap.size w w' := by
  have K0 : Hid (Ar w (w.alloc (.cells #[.int .i64 W, .int .i64 S, .int .i64 B, .int .i64 T, .slice ad len cap] 24)) w.heap.size W S B T ad len cap f) := Ar.start hr.out
  have F0 := Lib.hid (hF.out.next (box1 w (.cells #[.int .i64 W, .int .i64 S, .int .i64 B, .int .i64 T, .slice ad len cap] 24)))
  go_enter Tryd.func3, Tryd.ntmps3
  go_wp2_with fail
  generalize w.alloc (.cells #[.int .i64 W, .int .i64 S, .int .i64 B, .int .i64 T, .slice ad len cap] 24) = w0 at *
  generalize hM : w.heap.size = M at *
  refine (speaks11 _ F0).mono ?_
  rintro e wa ⟨rfl, hb⟩
  have K1 := Lib.hid (K0.out.next hb)
  have F1 := Lib.hid (F0.out.next hb)
  clear hb K0 F0
  obtain ⟨c0, c1, c2, c3, c4⟩ := cfg_cells K1.out.c
  go_wp2_with fail
  refine (rmay_any W S B T ad len cap f _ (Lib.hid K1.out.r) hl).mono ?_
  rintro e wb ⟨he, hb⟩
  obtain rfl : e = .returned (.bool false) := by rw [he, hm.out]
  have K := Lib.hid (K1.out.next hb)
  have F := Lib.hid (F1.out.next hb)
  clear hb K1 F1 c0 c1 c2 c3 c4 he
  go_wp2_with fail
  go_ret
  exact ⟨rfl, by rw [hM]; exact K.out.b⟩
set_option maxRecDepth 20000 in
set_option maxHeartbeats 8000000 in
theorem hdoes_many (W T : Int) (S B : Nat) (ad : Option Addr) (len cap : Nat) (f : Nat → Int) (aa : Option Addr) (n c : Nat) (w : World) (hr : Hid (RowI w ad len f)) (hl : len < 9223372036854775808) (hF : Hid (FldAt w)) (hm : Hid (mayB W (S : Nat) (B : Nat) T len f = true)) (hn : 100 < n) :
    Calls Tryd.prog 3 #[.agg #[.int .i64 W, .int .i64 (S : Nat), .int .i64 (B : Nat), .int .i64 T, .slice ad len cap], .slice aa n c] w fun e w' => e = .returned (.bool true) ∧ Below w.heap.size w w' := by
  have K0 : Hid (Ar w (w.alloc (.cells #[.int .i64 W, .int .i64 (S : Nat), .int .i64 (B : Nat), .int .i64 T, .slice ad len cap] 24)) w.heap.size W (S : Nat) (B : Nat) T ad len cap f) := Ar.start hr.out
  have F0 := Lib.hid (hF.out.next (box1 w (.cells #[.int .i64 W, .int .i64 (S : Nat), .int .i64 (B : Nat), .int .i64 T, .slice ad len cap] 24)))
  go_enter Tryd.func3, Tryd.ntmps3
  go_wp2_with fail
  generalize w.alloc (.cells #[.int .i64 W, .int .i64 (S : Nat), .int .i64 (B : Nat), .int .i64 T, .slice ad len cap] 24) = w0 at *
  generalize hM : w.heap.size = M at *
  refine (speaks11 _ F0).mono ?_
  rintro e wa ⟨rfl, hb⟩
  have K1 := Lib.hid (K0.out.next hb)
  have F1 := Lib.hid (F0.out.next hb)
  clear hb K0 F0
  obtain ⟨c0, c1, c2, c3, c4⟩ := cfg_cells K1.out.c
  go_wp2_with fail
  refine (rmay_any W (S : Nat) (B : Nat) T ad len cap f _ (Lib.hid K1.out.r) hl).mono ?_
  rintro e wb ⟨he, hb⟩
  obtain rfl : e = .returned (.bool true) := by rw [he, hm.out]
  have K := Lib.hid (K1.out.next hb)
  have F := Lib.hid (F1.out.next hb)
  clear hb K1 F1 c0 c1 c2 c3 c4 he
  have l3 : (100 : Int) < (n : Int) := by omega
  go_wp2_with fail
  go_ret
  exact ⟨rfl, by rw [hM]; exact K.out.b⟩
set_option maxRecDepth 20000 in
set_option maxHeartbeats 8000000 in
theorem hdoes_yes (W T : Int) (S B : Nat) (ad : Option Addr) (len cap : Nat) (f : Nat → Int) (aa : Option Addr) (n c : Nat) (Q : Nat → Qk) (w : World) (hr : Hid (RowI w ad len f)) (hl : len < 9223372036854775808) (hF : Hid (FldAt w)) (hm : Hid (mayB W (S : Nat) (B : Nat) T len f = true)) (hz : Hid (RowK w aa n Q)) (hn : n ≤ 100) :
    Calls Tryd.prog 3 #[.agg #[.int .i64 W, .int .i64 (S : Nat), .int .i64 (B : Nat), .int .i64 T, .slice ad len cap], .slice aa n c] w fun e w' => e = .returned (.bool true) ∧ Below w.heap.size w w' := by
  obtain ⟨⟨w1, w2⟩, ⟨s1, s2⟩, ⟨b1, b2⟩, ⟨t1, t2⟩, ⟨l1, l2⟩, hcls⟩ := may_nums hm.out
  have OK := Lib.hid (cls_ok hcls)
  clear hcls w1 w2 t1 t2
  have K0 : Hid (Ar w (w.alloc (.cells #[.int .i64 W, .int .i64 (S : Nat), .int .i64 (B : Nat), .int .i64 T, .slice ad len cap] 24)) w.heap.size W (S : Nat) (B : Nat) T ad len cap f) := Ar.start hr.out
  have F0 := Lib.hid (hF.out.next (box1 w (.cells #[.int .i64 W, .int .i64 (S : Nat), .int .i64 (B : Nat), .int .i64 T, .slice ad len cap] 24)))
  go_enter Tryd.func3, Tryd.ntmps3
  go_wp2_with fail
  generalize w.alloc (.cells #[.int .i64 W, .int .i64 (S : Nat), .int .i64 (B : Nat), .int .i64 T, .slice ad len cap] 24) = w0 at *
  generalize hM : w.heap.size = M at *
  refine (speaks11 _ F0).mono ?_
  rintro e wa ⟨rfl, hb⟩
  have K1 := Lib.hid (K0.out.next hb)
  have F1 := Lib.hid (F0.out.next hb)
  clear hb K0 F0
  obtain ⟨c0, c1, c2, c3, c4⟩ := cfg_cells K1.out.c
  go_wp2_with fail
  refine (rmay_any W (S : Nat) (B : Nat) T ad len cap f _ (Lib.hid K1.out.r) hl).mono ?_
  rintro e wb ⟨he, hb⟩
  obtain rfl : e = .returned (.bool true) := by rw [he, hm.out]
  have K := Lib.hid (K1.out.next hb)
  have F := Lib.hid (F1.out.next hb)
  clear hb K1 F1 c0 c1 c2 c3 c4 he
  have l3 : decide ((100 : Int) < (n : Int)) = false := by simp; omega
  obtain ⟨c0, c1, c2, c3, c4⟩ := cfg_cells K.out.c
  go_upto_region 5 with fail
  clear c0 c1 c2 c3 c4
  go_cut [5, 6] (fun u5 u6 wx => ∃ N cb, u5 = .pointer (some ⟨N, 0, none⟩) ∧ Hid (Ja w wx M N cb W T S B len ad cap f u6 (List.replicate S Sb.none)))
  case first =>
    refine wp_region_noPanic ?_
    refine wp_region_held_drew (S := fun w' => Cfg5 w' M W (S : Nat) (B : Nat) T (.slice ad len cap)) (by kernel_rfl) (K.out.drew.c) (fun hHeld => ?_)
    have DR := (Below.refl wb.heap.size wb).drew
    have K0 := Lib.hid (K.out.next DR)
    have F0 := Lib.hid (F.out.next DR)
    clear DR
    generalize wb.drew = z0 at *
    refine wpAnyH_take (i := 0) (v := .agg #[.int .i64 W, .int .i64 (S : Nat), .int .i64 (B : Nat), .int .i64 T, .slice ad len cap]) rfl (by kernel_rfl) (by kernel_rfl) (by kernel_rfl) (fun _ _ _ h => h) (Or.inl ⟨by rfl, fun w hSw => by obtain ⟨c0, c1, c2, c3, c4⟩ := cfg_cells hSw; go_simp⟩) (by assumption) ?_
    change wpAnyH _ _ _ _ _ _ _ (Act.put _ (some 23) _) _
    simp only [Act.put, List.setIfInBounds_toArray, List.set_cons_zero, List.set_cons_succ]
    refine wpAnyH_take (i := 2) (v := .agg #[.int .i64 W, .int .i64 (S : Nat), .int .i64 (B : Nat), .int .i64 T, .slice ad len cap]) rfl (by kernel_rfl) (by kernel_rfl) (by kernel_rfl) (fun _ _ _ h => h) (Or.inl ⟨by rfl, fun w hSw => by obtain ⟨c0, c1, c2, c3, c4⟩ := cfg_cells hSw; go_simp⟩) (by assumption) ?_
    change wpAnyH _ _ _ _ _ _ _ (Act.put _ (some 25) _) _
    simp only [Act.put, List.setIfInBounds_toArray, List.set_cons_zero, List.set_cons_succ]
    refine wpAnyH_ready (rs := [1, 4]) (by kernel_rfl) (by simp) ?_
    refine AllReadyH.cons rfl (fun K hK => ?_) (AllReadyH.cons rfl (fun K hK => ?_) (AllReadyH.nil))
    · refine step_enter (F := 16) (vals := #[.agg #[.int .i64 W, .int .i64 (S : Nat), .int .i64 (B : Nat), .int .i64 T, .slice ad len cap]]) rfl (by kernel_rfl) ?_
      refine (hnew_any W (S : Nat) (B : Nat) T ad len cap f z0 (Lib.hid K0.out.r) (by omega)).mono ?_
      rintro e y1 ⟨cb, rfl, n1, n2, hb⟩
      have K1 := Lib.hid (K0.out.next hb)
      have F1 := Lib.hid (F0.out.next hb)
      have E1 := Lib.hid n1
      have NC : Hid (w.heap.size ≤ cb ∧ M ≠ cb) := by
        have h3 := K0.out.lt
        have h4 : 3 ≤ w.heap.size := hF.out.tab.lt
        exact Lib.hid (by omega)
      clear n1 n2 hb
      show K (Act.put _ (some 24) _) y1
      refine hK.out _ _ (K1.out.c) (fun hHeld1 => ?_)
      clear hK K
      simp only [Act.put, List.setIfInBounds_toArray, List.set_cons_zero, List.set_cons_succ]
      refine wpAnyH_ready (rs := [3, 4]) (by kernel_rfl) (by simp) ?_
      refine AllReadyH.cons rfl (fun K hK => ?_) (AllReadyH.cons rfl (fun K hK => ?_) (AllReadyH.nil))
      · refine step_enter (F := 17) (vals := #[.agg #[.int .i64 W, .int .i64 (S : Nat), .int .i64 (B : Nat), .int .i64 T, .slice ad len cap]]) rfl (by kernel_rfl) ?_
        refine (rnew11_any W T S B _ y1 (by omega)).mono ?_
        rintro e y2 ⟨vr, rfl, rn, hb⟩
        have K2 := Lib.hid (K1.out.next hb)
        have F2 := Lib.hid (F1.out.next hb)
        have E2 : Hid (y2.heap[cb]? = _) := (hb.block cb (heap_lt E1.out)).trans E1.out
        have R2 := Lib.hid rn
        clear rn hb
        show K (Act.put _ (some 26) _) y2
        refine hK.out _ _ (K2.out.c) (fun hHeld2 => ?_)
        clear hK K
        simp only [Act.put, List.setIfInBounds_toArray, List.set_cons_zero, List.set_cons_succ]
        refine wpAnyH_ready (rs := [4]) (by kernel_rfl) (by simp) ?_
        refine AllReadyH.cons rfl (fun K hK => ?_) (AllReadyH.nil)
        · refine step_value (v := .pointer (some ⟨y2.heap.size, 0, none⟩)) (w' := y2.alloc (.cells #[.int .i64 0, .int .i64 0, .int .i64 0, .int .i64 0, .slice none 0 0] 29)) rfl (by kernel_rfl) ?_
          have hb := box1 y2 (.cells #[.int .i64 0, .int .i64 0, .int .i64 0, .int .i64 0, .slice none 0 0] 29)
          have K3 := Lib.hid (K2.out.next hb)
          have F3 := Lib.hid (F2.out.next hb)
          have E3 : Hid ((y2.alloc (.cells #[.int .i64 0, .int .i64 0, .int .i64 0, .int .i64 0, .slice none 0 0] 29)).heap[cb]? = _) := (hb.block cb (heap_lt E2.out)).trans E2.out
          have R3 := Lib.hid (R2.out.next hb)
          have X3 : Hid (HBox (y2.alloc (.cells #[.int .i64 0, .int .i64 0, .int .i64 0, .int .i64 0, .slice none 0 0] 29)) y2.heap.size 0 0 0 0 (.slice none 0 0)) := heap_new y2 _
          have NB : Hid (w.heap.size ≤ y2.heap.size ∧ w.heap.size ≤ cb ∧ M ≠ y2.heap.size ∧ M ≠ cb ∧ y2.heap.size ≠ cb ∧ 3 ≤ y2.heap.size) := by
            have h1 := NC.out
            have h2 := heap_lt E2.out
            have h3 := K2.out.lt
            have h4 : 3 ≤ w.heap.size := hF.out.tab.lt
            exact Lib.hid (by omega)
          clear hb
          generalize y2.alloc (.cells #[.int .i64 0, .int .i64 0, .int .i64 0, .int .i64 0, .slice none 0 0] 29) = y3 at *
          generalize y2.heap.size = nb at *
          show K (Act.put _ (some 5) _) y3
          refine hK.out _ _ (K3.out.c) (fun hHeld3 => ?_)
          clear hK K
          simp only [Act.put, List.setIfInBounds_toArray, List.set_cons_zero, List.set_cons_succ]
          refine wpAnyH_ready (rs := [5]) (by kernel_rfl) (by simp) ?_
          refine AllReadyH.cons rfl (fun K hK => ?_) AllReadyH.nil
          have x0 := X3.out.c0
          have x1 := X3.out.c1
          have x2 := X3.out.c2
          have x3 := X3.out.c3
          have x4 := X3.out.c4
          have ff := fun j => frozen_of (j := j) X3.out
          have OO := only_5 (w := y3) (N := nb) (.int .i64 W) (.int .i64 (S : Nat)) (.int .i64 (B : Nat)) (.int .i64 T) (.slice (some ⟨cb, 0, none⟩) len len)
          have NE := NB.out
          have c1 := K3.out.lt
          have lo := hF.out.tab.lt
          have JJ : Hid (Ja w (((((y3.setCell ⟨nb, 0, none⟩ (.int .i64 W)).setCell ⟨nb, 1, none⟩ (.int .i64 (S : Nat))).setCell ⟨nb, 2, none⟩ (.int .i64 (B : Nat))).setCell ⟨nb, 3, none⟩ (.int .i64 T)).setCell ⟨nb, 4, none⟩ (.slice (some ⟨cb, 0, none⟩) len len)) M nb cb W T S B len ad cap f vr (List.replicate S Sb.none)) := by
            have b0 : Below w.heap.size w y3 := by rw [hM]; exact K3.out.b
            exact ⟨OO.at K3.out.c (by simp; omega), X3.out.set5 _ _ _ _ _, OO.at E3.out (by simp; omega), R3.out.aside X3.out (by decide) OO, F3.out.stay OO (by simp; omega), b0.trans (OO.below (by simp; omega) b0.size), by omega⟩
          clear NE c1 lo OO E3 R3 F3
          go_simp
          refine hK.out _ _ (JJ.out.cfg) (fun hHeldZ => ?_)
          clear hK K
          refine wpAnyH_take (i := 6) (v := vr) rfl (by kernel_rfl) (by kernel_rfl) (by kernel_rfl) (fun _ _ _ h => h) (Or.inl ⟨by rfl, fun w hSw => by obtain ⟨c0, c1, c2, c3, c4⟩ := cfg_cells hSw; go_simp⟩) (by assumption) ?_
          change wpAnyH _ _ _ _ _ _ _ (Act.put _ (some 6) _) _
          simp only [Act.put, List.setIfInBounds_toArray, List.set_cons_zero, List.set_cons_succ]
          refine ⟨by kernel_rfl, ?_⟩
          refine NoPanic.normal ?_
          go_wp2_with fail
          go_meet
          case rel => exact ⟨nb, cb, rfl, JJ⟩


      · refine step_value (v := .pointer (some ⟨y1.heap.size, 0, none⟩)) (w' := y1.alloc (.cells #[.int .i64 0, .int .i64 0, .int .i64 0, .int .i64 0, .slice none 0 0] 29)) rfl (by kernel_rfl) ?_
        have hb := box1 y1 (.cells #[.int .i64 0, .int .i64 0, .int .i64 0, .int .i64 0, .slice none 0 0] 29)
        have K4 := Lib.hid (K1.out.next hb)
        have F4 := Lib.hid (F1.out.next hb)
        have E4 : Hid ((y1.alloc (.cells #[.int .i64 0, .int .i64 0, .int .i64 0, .int .i64 0, .slice none 0 0] 29)).heap[cb]? = _) := (hb.block cb (heap_lt E1.out)).trans E1.out
        have X4 : Hid (HBox (y1.alloc (.cells #[.int .i64 0, .int .i64 0, .int .i64 0, .int .i64 0, .slice none 0 0] 29)) y1.heap.size 0 0 0 0 (.slice none 0 0)) := heap_new y1 _
        have NB : Hid (w.heap.size ≤ y1.heap.size ∧ w.heap.size ≤ cb ∧ M ≠ y1.heap.size ∧ M ≠ cb ∧ y1.heap.size ≠ cb ∧ 3 ≤ y1.heap.size) := by
          have h1 := NC.out
          have h2 := heap_lt E1.out
          have h3 := K1.out.lt
          have h4 : 3 ≤ w.heap.size := hF.out.tab.lt
          exact Lib.hid (by omega)
        clear hb
        generalize y1.alloc (.cells #[.int .i64 0, .int .i64 0, .int .i64 0, .int .i64 0, .slice none 0 0] 29) = y4 at *
        generalize y1.heap.size = nb at *
        show K (Act.put _ (some 5) _) y4
        refine hK.out _ _ (K4.out.c) (fun hHeld4 => ?_)
        clear hK K
        simp only [Act.put, List.setIfInBounds_toArray, List.set_cons_zero, List.set_cons_succ]
        refine wpAnyH_ready (rs := [3]) (by kernel_rfl) (by simp) ?_
        refine AllReadyH.cons rfl (fun K hK => ?_) (AllReadyH.nil)
        · refine step_enter (F := 17) (vals := #[.agg #[.int .i64 W, .int .i64 (S : Nat), .int .i64 (B : Nat), .int .i64 T, .slice ad len cap]]) rfl (by kernel_rfl) ?_
          refine (rnew11_any W T S B _ y4 (by omega)).mono ?_
          rintro e y5 ⟨vr, rfl, rn, hb⟩
          have K5 := Lib.hid (K4.out.next hb)
          have F5 := Lib.hid (F4.out.next hb)
          have E5 : Hid (y5.heap[cb]? = _) := (hb.block cb (heap_lt E4.out)).trans E4.out
          have X5 := Lib.hid (X4.out.next hb)
          have R5 := Lib.hid rn
          clear rn hb
          show K (Act.put _ (some 26) _) y5
          refine hK.out _ _ (K5.out.c) (fun hHeld5 => ?_)
          clear hK K
          simp only [Act.put, List.setIfInBounds_toArray, List.set_cons_zero, List.set_cons_succ]
          refine wpAnyH_ready (rs := [5]) (by kernel_rfl) (by simp) ?_
          refine AllReadyH.cons rfl (fun K hK => ?_) AllReadyH.nil
          have x0 := X5.out.c0
          have x1 := X5.out.c1
          have x2 := X5.out.c2
          have x3 := X5.out.c3
          have x4 := X5.out.c4
          have ff := fun j => frozen_of (j := j) X5.out
          have OO := only_5 (w := y5) (N := nb) (.int .i64 W) (.int .i64 (S : Nat)) (.int .i64 (B : Nat)) (.int .i64 T) (.slice (some ⟨cb, 0, none⟩) len len)
          have NE := NB.out
          have c1 := K5.out.lt
          have lo := hF.out.tab.lt
          have JJ : Hid (Ja w (((((y5.setCell ⟨nb, 0, none⟩ (.int .i64 W)).setCell ⟨nb, 1, none⟩ (.int .i64 (S : Nat))).setCell ⟨nb, 2, none⟩ (.int .i64 (B : Nat))).setCell ⟨nb, 3, none⟩ (.int .i64 T)).setCell ⟨nb, 4, none⟩ (.slice (some ⟨cb, 0, none⟩) len len)) M nb cb W T S B len ad cap f vr (List.replicate S Sb.none)) := by
            have b0 : Below w.heap.size w y5 := by rw [hM]; exact K5.out.b
            exact ⟨OO.at K5.out.c (by simp; omega), X5.out.set5 _ _ _ _ _, OO.at E5.out (by simp; omega), R5.out.aside X5.out (by decide) OO, F5.out.stay OO (by simp; omega), b0.trans (OO.below (by simp; omega) b0.size), by omega⟩
          clear NE c1 lo OO E5 R5 F5
          go_simp
          refine hK.out _ _ (JJ.out.cfg) (fun hHeldZ => ?_)
          clear hK K
          refine wpAnyH_take (i := 6) (v := vr) rfl (by kernel_rfl) (by kernel_rfl) (by kernel_rfl) (fun _ _ _ h => h) (Or.inl ⟨by rfl, fun w hSw => by obtain ⟨c0, c1, c2, c3, c4⟩ := cfg_cells hSw; go_simp⟩) (by assumption) ?_
          change wpAnyH _ _ _ _ _ _ _ (Act.put _ (some 6) _) _
          simp only [Act.put, List.setIfInBounds_toArray, List.set_cons_zero, List.set_cons_succ]
          refine ⟨by kernel_rfl, ?_⟩
          refine NoPanic.normal ?_
          go_wp2_with fail
          go_meet
          case rel => exact ⟨nb, cb, rfl, JJ⟩



    · refine step_value (v := .pointer (some ⟨z0.heap.size, 0, none⟩)) (w' := z0.alloc (.cells #[.int .i64 0, .int .i64 0, .int .i64 0, .int .i64 0, .slice none 0 0] 29)) rfl (by kernel_rfl) ?_
      have hb := box1 z0 (.cells #[.int .i64 0, .int .i64 0, .int .i64 0, .int .i64 0, .slice none 0 0] 29)
      have K6 := Lib.hid (K0.out.next hb)
      have F6 := Lib.hid (F0.out.next hb)
      have X6 : Hid (HBox (z0.alloc (.cells #[.int .i64 0, .int .i64 0, .int .i64 0, .int .i64 0, .slice none 0 0] 29)) z0.heap.size 0 0 0 0 (.slice none 0 0)) := heap_new z0 _
      have NA : Hid (w.heap.size ≤ z0.heap.size ∧ M ≠ z0.heap.size ∧ 3 ≤ z0.heap.size) := by
        have h3 := K0.out.lt
        have h4 : 3 ≤ w.heap.size := hF.out.tab.lt
        exact Lib.hid (by omega)
      clear hb
      generalize z0.alloc (.cells #[.int .i64 0, .int .i64 0, .int .i64 0, .int .i64 0, .slice none 0 0] 29) = y6 at *
      generalize z0.heap.size = nb at *
      show K (Act.put _ (some 5) _) y6
      refine hK.out _ _ (K6.out.c) (fun hHeld6 => ?_)
      clear hK K
      simp only [Act.put, List.setIfInBounds_toArray, List.set_cons_zero, List.set_cons_succ]
      refine wpAnyH_ready (rs := [1]) (by kernel_rfl) (by simp) ?_
      refine AllReadyH.cons rfl (fun K hK => ?_) (AllReadyH.nil)
      · refine step_enter (F := 16) (vals := #[.agg #[.int .i64 W, .int .i64 (S : Nat), .int .i64 (B : Nat), .int .i64 T, .slice ad len cap]]) rfl (by kernel_rfl) ?_
        refine (hnew_any W (S : Nat) (B : Nat) T ad len cap f y6 (Lib.hid K6.out.r) (by omega)).mono ?_
        rintro e y7 ⟨cb, rfl, n1, n2, hb⟩
        have K7 := Lib.hid (K6.out.next hb)
        have F7 := Lib.hid (F6.out.next hb)
        have X7 := Lib.hid (X6.out.next hb)
        have E7 := Lib.hid n1
        have NB : Hid (w.heap.size ≤ nb ∧ w.heap.size ≤ cb ∧ M ≠ nb ∧ M ≠ cb ∧ nb ≠ cb ∧ 3 ≤ nb) := by
          have h1 := NA.out
          have h2 := heap_lt X6.out
          have h3 := K6.out.lt
          have h4 : 3 ≤ w.heap.size := hF.out.tab.lt
          exact Lib.hid (by omega)
        clear n1 n2 hb
        show K (Act.put _ (some 24) _) y7
        refine hK.out _ _ (K7.out.c) (fun hHeld7 => ?_)
        clear hK K
        simp only [Act.put, List.setIfInBounds_toArray, List.set_cons_zero, List.set_cons_succ]
        refine wpAnyH_ready (rs := [3]) (by kernel_rfl) (by simp) ?_
        refine AllReadyH.cons rfl (fun K hK => ?_) (AllReadyH.nil)
        · refine step_enter (F := 17) (vals := #[.agg #[.int .i64 W, .int .i64 (S : Nat), .int .i64 (B : Nat), .int .i64 T, .slice ad len cap]]) rfl (by kernel_rfl) ?_
          refine (rnew11_any W T S B _ y7 (by omega)).mono ?_
          rintro e y8 ⟨vr, rfl, rn, hb⟩
          have K8 := Lib.hid (K7.out.next hb)
          have F8 := Lib.hid (F7.out.next hb)
          have E8 : Hid (y8.heap[cb]? = _) := (hb.block cb (heap_lt E7.out)).trans E7.out
          have X8 := Lib.hid (X7.out.next hb)
          have R8 := Lib.hid rn
          clear rn hb
          show K (Act.put _ (some 26) _) y8
          refine hK.out _ _ (K8.out.c) (fun hHeld8 => ?_)
          clear hK K
          simp only [Act.put, List.setIfInBounds_toArray, List.set_cons_zero, List.set_cons_succ]
          refine wpAnyH_ready (rs := [5]) (by kernel_rfl) (by simp) ?_
          refine AllReadyH.cons rfl (fun K hK => ?_) AllReadyH.nil
          have x0 := X8.out.c0
          have x1 := X8.out.c1
          have x2 := X8.out.c2
          have x3 := X8.out.c3
          have x4 := X8.out.c4
          have ff := fun j => frozen_of (j := j) X8.out
          have OO := only_5 (w := y8) (N := nb) (.int .i64 W) (.int .i64 (S : Nat)) (.int .i64 (B : Nat)) (.int .i64 T) (.slice (some ⟨cb, 0, none⟩) len len)
          have NE := NB.out
          have c1 := K8.out.lt
          have lo := hF.out.tab.lt
          have JJ : Hid (Ja w (((((y8.setCell ⟨nb, 0, none⟩ (.int .i64 W)).setCell ⟨nb, 1, none⟩ (.int .i64 (S : Nat))).setCell ⟨nb, 2, none⟩ (.int .i64 (B : Nat))).setCell ⟨nb, 3, none⟩ (.int .i64 T)).setCell ⟨nb, 4, none⟩ (.slice (some ⟨cb, 0, none⟩) len len)) M nb cb W T S B len ad cap f vr (List.replicate S Sb.none)) := by
            have b0 : Below w.heap.size w y8 := by rw [hM]; exact K8.out.b
            exact ⟨OO.at K8.out.c (by simp; omega), X8.out.set5 _ _ _ _ _, OO.at E8.out (by simp; omega), R8.out.aside X8.out (by decide) OO, F8.out.stay OO (by simp; omega), b0.trans (OO.below (by simp; omega) b0.size), by omega⟩
          clear NE c1 lo OO E8 R8 F8
          go_simp
          refine hK.out _ _ (JJ.out.cfg) (fun hHeldZ => ?_)
          clear hK K
          refine wpAnyH_take (i := 6) (v := vr) rfl (by kernel_rfl) (by kernel_rfl) (by kernel_rfl) (fun _ _ _ h => h) (Or.inl ⟨by rfl, fun w hSw => by obtain ⟨c0, c1, c2, c3, c4⟩ := cfg_cells hSw; go_simp⟩) (by assumption) ?_
          change wpAnyH _ _ _ _ _ _ _ (Act.put _ (some 6) _) _
          simp only [Act.put, List.setIfInBounds_toArray, List.set_cons_zero, List.set_cons_succ]
          refine ⟨by kernel_rfl, ?_⟩
          refine NoPanic.normal ?_
          go_wp2_with fail
          go_meet
          case rel => exact ⟨nb, cb, rfl, JJ⟩




  case rest =>
    obtain ⟨N, cb, rfl, J⟩ := hcut
    clear K F
    generalize hvr : u6 = vr at *
    have lo3 : 3 ≤ w.heap.size := hF.out.tab.lt
    have lsz := Lib.hid (Nat.le_trans (heap_lt J.out.box) (Nat.le_refl _))
    have WO : Hid (∀ w, Calls Tryd.prog 18 #[.agg #[.int .i64 W, .int .i64 (S : Nat), .int .i64 (B : Nat), .int .i64 T, .slice (some ⟨cb, 0, none⟩) len len]] w fun e w' => e = .returned (.int .i64 ((2 * S : Nat) : Int)) ∧ Below w.heap.size w w') := fun w => (hwords_any W (S : Nat) (B : Nat) T _ w (by omega) (by omega)).mono fun _ _ h => ⟨h.1, h.2⟩
    have d0 := J.out.box.c0
    have d1 := J.out.box.c1
    have d2 := J.out.box.c2
    have d3 := J.out.box.c3
    have d4 := J.out.box.c4
    go_wp2_with fail
    refine (WO.out _).mono ?_
    rintro e we ⟨rfl, hb⟩
    have J4 := Lib.hid (J.out.next hb)

    clear hb WO J d0 d1 d2 d3 d4
    obtain ⟨i0, hi, hz0, hz1, hz2⟩ := info_parts info64
    go_wp2_with (at_make; refine wpList_make_full _ rfl _ _ 33 rfl 0 35 i0 (.int .u64 0) 1 Tryd.underlying33 hi hz0 hz1 .i64 .i64 _ _ (2 * S) rfl rfl (by omega) (by omega) (by rw [hz2]; omega) (by unfold maxLen; omega) (Nat.zero_le _) ?_)
    intro w5 ho hg
    have BG := grown_below hg rfl
    have J5 : Hid (Jn w w5 M N we.heap.size cb W T S B len ad cap f (vr) (List.replicate S Sb.none)) := J4.out.words BG lo3 (Nat.le_refl _) (hw_new ho (by omega)) OK.out (by omega)


    clear ho hg BG hi hz0 hz1 hz2 J4
    generalize we.heap.size = b at *

    have hl2 : ((2 * S : Nat) : Int) = 2 * (S : Int) := by push_cast; rfl
    obtain ⟨c0, c1, c2, c3, c4⟩ := cfg_cells J5.out.su.cfg
    have d0 := J5.out.su.sp.box.c0
    have d1 := J5.out.su.sp.box.c1
    have d2 := J5.out.su.sp.box.c2
    have d3 := J5.out.su.sp.box.c3
    have d4 := J5.out.su.sp.box.c4

    have fn := hn
    go_wp2_with fail
    go_loopw [6, 38] (fun u6 u38 wr => ∃ (j : Nat) (l : List Sb), j ≤ n ∧ u38 = .int .i64 (j : Nat) ∧ Hid (Jn w wr M N b cb W T S B len ad cap f (u6) (l))) (fun _ u38 _ => n - (intOf u38).toNat)
    case atStart => exact ⟨0, _, by omega, rfl, J5⟩
    case round =>
      obtain ⟨j, l, hj, rfl, G⟩ := hrel
      by_cases hlt : j < n
      · have l3 : (j : Int) < (n : Int) := by omega
        obtain ⟨qb, qoff, rfl, fine, hc0, hc1, hc2, hc3, hc4⟩ := (hz.out.next G.out.su.sp.be).at hlt
        generalize Q j = q at *
        have hba := below_alloc wr (.cells #[.int .i64 q.k, .int .i64 q.n, .int .u64 (q.m : Nat), .int .u64 (q.a : Nat), .int .u64 (q.d : Nat)] 39)
        have AK : Hid (AkBox (wr.alloc (.cells #[.int .i64 q.k, .int .i64 q.n, .int .u64 (q.m : Nat), .int .u64 (q.a : Nat), .int .u64 (q.d : Nat)] 39)) wr.heap.size q.k q.n q.m q.a q.d) := heap_new wr (.cells #[.int .i64 q.k, .int .i64 q.n, .int .u64 (q.m : Nat), .int .u64 (q.a : Nat), .int .u64 (q.d : Nat)] 39)
        have G1 := Lib.hid (G.out.next hba)

        clear hba G
        go_upto_region 12 with fail
        clear hc0 hc1 hc2 hc3 hc4
        generalize wr.alloc (.cells #[.int .i64 q.k, .int .i64 q.n, .int .u64 (q.m : Nat), .int .u64 (q.a : Nat), .int .u64 (q.d : Nat)] 39) = w7 at *
        generalize wr.heap.size = MQ at *
        have k0 := AK.out.c0
        have k1 := AK.out.c1
        have k2 := AK.out.c2
        have k3 := AK.out.c3
        have k4 := AK.out.c4
        obtain ⟨c0, c1, c2, c3, c4⟩ := cfg_cells G1.out.su.cfg
        have d0 := G1.out.su.sp.box.c0
        have d1 := G1.out.su.sp.box.c1
        have d2 := G1.out.su.sp.box.c2
        have d3 := G1.out.su.sp.box.c3
        have d4 := G1.out.su.sp.box.c4
        obtain ⟨l2, x1, x2, hd⟩ : ∃ l2 x1 x2, doP (capN len f) B l q = (l2, (x1, x2)) := ⟨_, _, _, rfl⟩
        have DO := Lib.hid (G1.out.ask (hr.out.next G1.out.su.sp.be) q fine (2 * S) hd)
        clear fine hd
        go_wp2_with fail
        refine DO.out.mono ?_
        rintro e w8 ⟨v2, rfl, J8, ON⟩
        have G8 := Lib.hid J8


        clear J8 ON G1 AK DO k0 k1 k2 k3 k4 c0 c1 c2 c3 c4 d0 d1 d2 d3 d4
        go_upto_region 13 with fail
        obtain ⟨q1, q2, q3, q4⟩ := two_fresh w8 (.cells #[.int .u64 (x1 : Nat), .int .u64 (x2 : Nat)] 37) (.cells #[.int .u64 (x1 : Nat), .int .u64 (x2 : Nat)] 37)
        have X1 : Hid (OpBox _ w8.heap.size x1 x2) := q1
        have X2 : Hid (OpBox _ (w8.heap.size + 1) x1 x2) := q2
        have G9 := Lib.hid (G8.out.next q3)
        clear q1 q2 q3 q4 G8
        generalize (w8.alloc (.cells #[.int .u64 (x1 : Nat), .int .u64 (x2 : Nat)] 37)).alloc (.cells #[.int .u64 (x1 : Nat), .int .u64 (x2 : Nat)] 37) = w9 at *
        generalize w8.heap.size = MP at *
        have e0 := X1.out.c0
        have e1 := X1.out.c1
        have e2 := X2.out.c0
        have e3 := X2.out.c1
        have SM := Lib.hid (G9.out.same (2 * S))
        go_wp2_with fail
        refine SM.out.mono ?_
        rintro e wz ⟨rfl, hb⟩
        have GZ := Lib.hid (G9.out.next hb)
        clear hb
        go_wp2_with fail
        go_roundw
        case rel => exact ⟨j + 1, l2, by omega, by push_cast; rfl, GZ⟩
        case measure => simp [intOf]; omega
      · obtain rfl : j = n := by omega
        have SM := Lib.hid (G.out.same (2 * S))
        go_wp2_with fail
        refine SM.out.mono ?_
        rintro e wz ⟨rfl, hb⟩
        have GZ := Lib.hid (G.out.next hb)
        clear hb
        go_wp2_with fail
        go_ret
        exact ⟨rfl, GZ.out.su.sp.be⟩


theorem hdoes_walk (W S B T : Int) (ad : Option Addr) (len cap : Nat) (f : Nat → Int) (aa : Option Addr) (n c : Nat) (Q : Nat → Qk) (w : World) (hr : RowI w ad len f) (hl : len < 9223372036854775808) (hz : RowK w aa n Q) (hF : FldAt w) :
    Calls Tryd.prog 3 #[.agg #[.int .i64 W, .int .i64 S, .int .i64 B, .int .i64 T, .slice ad len cap], .slice aa n c] w fun e w' => e = .returned (.bool true) ∧ Below w.heap.size w w' := by
  rcases h : mayB W S B T len f with _ | _
  · exact hdoes_no W S B T ad len cap f aa n c w hr hl hF h
  · obtain ⟨_, ⟨s1, _⟩, ⟨b1, _⟩, _⟩ := may_nums h
    obtain ⟨S, rfl⟩ := Int.eq_ofNat_of_zero_le (show 0 ≤ S by omega)
    obtain ⟨B, rfl⟩ := Int.eq_ofNat_of_zero_le (show 0 ≤ B by omega)
    by_cases h2 : n ≤ 100
    · exact hdoes_yes W T S B ad len cap f aa n c Q w hr hl hF h hz h2
    · exact hdoes_many W T S B ad len cap f aa n c w hr hl hF h (by omega)
end Go.Proofs.YtkogeeaoppkhkaaDoor
