/-
  chandlerylaw11.do: what may not be asked; then whatever is asked. (Printed by mkheartdo2.py.)
-/
import Derived.Test.YtkogeeaoppkhkaaDoorHeartDo
import Derived.Test.YtkogeeaoppkhkaaDoorRowAsk
namespace Go.Proofs.YtkogeeaoppkhkaaDoor
open Go.RowKit Go.Sort Go.Shelf

section
variable {w0 w w' : World} {P b cb : Nat} {W T : Int} {S B len cap : Nat} {ad : Option Addr} {k n : Int} {m a d : Nat} {l l' : List Sb} {v : Value} {lv : List Sb} {A1 D1 A2 D2 : Nat}
theorem Dq.set1z (h : Dq w0 w P b cb W T S B len cap ad k n m a d l v lv A1 D1 A2 D2) : Dq w0 ((w.setCell ⟨P + 3, 0, none⟩ (.int .u64 0)).setCell ⟨P + 3, 1, none⟩ (.int .u64 0)) P b cb W T S B len cap ad k n m a d l v lv 0 0 A2 D2 := h.set1 0 0
theorem Dq.set2z (h : Dq w0 w P b cb W T S B len cap ad k n m a d l v lv A1 D1 A2 D2) : Dq w0 ((w.setCell ⟨P + 4, 0, none⟩ (.int .u64 0)).setCell ⟨P + 4, 1, none⟩ (.int .u64 0)) P b cb W T S B len cap ad k n m a d l v lv A1 D1 0 0 := h.set2 0 0
end
set_option maxRecDepth 20000 in
set_option maxHeartbeats 8000000 in
theorem do5_any (W T : Int) (S B : Nat) (ad : Option Addr) (len cap : Nat) (f : Nat → Int) (v : Value) (l : List Sb) (b cb c : Nat) (n : Int) (m a d : Nat) (w : World) (hW : Hid (HW w b l [])) (hR : Hid (RS w v l)) (hF : Hid (FldAt w)) (hc : Hid (RowI w (some ⟨cb, 0, none⟩) len f)) (ok : Hid (ClsOk len f)) (hS : Hid (S = l.length)) (hB : B ≤ 64) (hn : ¬(0 ≤ n ∧ n < 4294967296)) (hn1 : -9223372036854775808 ≤ n) (hn2 : n < 9223372036854775808) (hb3 : 3 ≤ b) :
    Calls Tryd.prog 19 #[.agg #[.int .i64 W, .int .i64 (S : Nat), .int .i64 (B : Nat), .int .i64 T, .slice (some ⟨cb, 0, none⟩) len len], .agg #[.int .i64 W, .int .i64 (S : Nat), .int .i64 (B : Nat), .int .i64 T, .slice ad len cap], .slice (some ⟨b, 0, none⟩) (2 * S) c, v, .agg #[.int .i64 1, .int .i64 n, .int .u64 (m : Nat), .int .u64 (a : Nat), .int .u64 (d : Nat)]] w (DoPost w b (l, (0, 0))) := by
  have D0 := Lib.hid (dq_start (k := 1) (n := n) (m := m) (a := a) (d := d) (W := W) (T := T) (S := S) (B := B) (len := len) (cap := cap) (ad := ad) (cb := cb) hW.out hR.out hF.out hb3)
  have HB : Hid (Below w.heap.size w (((((w.alloc (.cells #[.int .i64 W, .int .i64 (S : Nat), .int .i64 (B : Nat), .int .i64 T, .slice (some ⟨cb, 0, none⟩) len len] 29)).alloc (.cells #[.int .i64 W, .int .i64 (S : Nat), .int .i64 (B : Nat), .int .i64 T, .slice ad len cap] 24)).alloc (.cells #[.int .i64 1, .int .i64 n, .int .u64 (m : Nat), .int .u64 (a : Nat), .int .u64 (d : Nat)] 39)).alloc (.cells #[.int .u64 0, .int .u64 0] 37)).alloc (.cells #[.int .u64 0, .int .u64 0] 37))) := below5 _ _ _ _ _ _
  have RC0 := Lib.hid (hc.out.next HB.out)
  have k0 := D0.out.ak.c0
  have k1 := D0.out.ak.c1
  have OPC : Hid (∀ y, FldAt y → Calls Tryd.prog 22 #[.int .i64 n] y fun e y' => e = .returned (.agg #[.int .u64 0, .int .u64 0]) ∧ Below y.heap.size y y') := fun y h => by
    have := refillOp_any n y (by omega) (by omega) (Lib.hid h)
    rw [show askA 1 n = 0 from by unfold askA; rw [if_neg (by omega)], show askB n 0 = 0 from by unfold askB; split <;> rfl] at this
    exact this
  obtain ⟨x1, x2, HX⟩ : ∃ x1 x2 : Nat, Hid (x1 = 0 ∧ x2 = 0) := ⟨0, 0, rfl, rfl⟩
  have APC : Hid (∀ y, HW y b l [] → FldAt y → RowI y (some ⟨cb, 0, none⟩) len f → Calls Tryd.prog 21 #[.agg #[.int .i64 W, .int .i64 (S : Nat), .int .i64 (B : Nat), .int .i64 T, .slice (some ⟨cb, 0, none⟩) len len], .slice (some ⟨b, 0, none⟩) (2 * S) c, .agg #[.int .u64 0, .int .u64 0]] y fun e y' => e = .returned (.agg #[.int .u64 (x1 : Nat), .int .u64 (x2 : Nat)]) ∧ HW y' b l [] ∧ Only [b] y y') := fun y h1 h2 h3 => by
    have := apply_any W T S B (some ⟨cb, 0, none⟩) len len f 0 0 b (2 * S) c l [] y (Lib.hid h1) (by rw [hS.out]) hS.out (Lib.hid h2) (Lib.hid h3) ok hB (by omega) (by omega) hb3
    rw [show appP (capN len f) B l (0, 0) = (l, (0, 0)) from by simp [appP]] at this
    rw [HX.out.1, HX.out.2]
    exact this
  go_enter Tryd.func19, Tryd.ntmps19
  rcases (by omega : n < 0 ∨ 4294967296 ≤ n) with hq | hq
  · have g0 : decide ((0 : Int) ≤ n) = false := by simpa using hq
    go_upto_region 6 with fail
    generalize ((((w.alloc (.cells #[.int .i64 W, .int .i64 (S : Nat), .int .i64 (B : Nat), .int .i64 T, .slice (some ⟨cb, 0, none⟩) len len] 29)).alloc (.cells #[.int .i64 W, .int .i64 (S : Nat), .int .i64 (B : Nat), .int .i64 T, .slice ad len cap] 24)).alloc (.cells #[.int .i64 1, .int .i64 n, .int .u64 (m : Nat), .int .u64 (a : Nat), .int .u64 (d : Nat)] 39)).alloc (.cells #[.int .u64 0, .int .u64 0] 37)).alloc (.cells #[.int .u64 0, .int .u64 0] 37) = w5 at *
    have hlo := D0.out.lo
    generalize hP : w.heap.size = P at *
    have G := D0
    have RC := RC0
    clear k0 k1 D0 RC0 HB
    refine wp_region_noPanic ?_
    refine wp_region_held_drew (S := fun w' => HBox w' P W (S : Nat) (B : Nat) T (.slice (some ⟨cb, 0, none⟩) len len) ∧ AkBox w' (P + 2) 1 n m a d) (by kernel_rfl) (⟨(G.out.next ((Below.refl _ _).drew)).hb, (G.out.next ((Below.refl _ _).drew)).ak⟩) (fun hHeld => ?_)
    have DR := (Below.refl w5.heap.size w5).drew
    have G0 := Lib.hid (G.out.next DR)
    have RC0 := Lib.hid (RC.out.next DR)
    clear DR
    generalize w5.drew = z0 at *
    refine wpAnyH_take (i := 0) (v := .agg #[.int .i64 W, .int .i64 (S : Nat), .int .i64 (B : Nat), .int .i64 T, .slice (some ⟨cb, 0, none⟩) len len]) rfl (by kernel_rfl) (by kernel_rfl) (by kernel_rfl) (fun _ _ _ h => h) (Or.inl ⟨by rfl, fun w hSw => by obtain ⟨s1, s2⟩ := hSw; have a0 := s1.c0; have a1 := s1.c1; have a2 := s1.c2; have a3 := s1.c3; have a4 := s1.c4; have b1 := s2.c1; have b2 := s2.c2; go_simp⟩) (by assumption) ?_
    change wpAnyH _ _ _ _ _ _ _ (Act.put _ (some 51) _) _
    simp only [Act.put, List.setIfInBounds_toArray, List.set_cons_zero, List.set_cons_succ]
    refine wpAnyH_take (i := 1) (v := .slice (some ⟨b, 0, none⟩) (2 * S) c) rfl (by kernel_rfl) (by kernel_rfl) (by kernel_rfl) (fun _ _ _ h => h) (Or.inl ⟨by rfl, fun w hSw => by obtain ⟨s1, s2⟩ := hSw; have a0 := s1.c0; have a1 := s1.c1; have a2 := s1.c2; have a3 := s1.c3; have a4 := s1.c4; have b1 := s2.c1; have b2 := s2.c2; go_simp⟩) (by assumption) ?_
    change wpAnyH _ _ _ _ _ _ _ (Act.put _ (some 52) _) _
    simp only [Act.put, List.setIfInBounds_toArray, List.set_cons_zero, List.set_cons_succ]
    refine wpAnyH_take (i := 2) (v := .pointer (some ⟨P + 2, 1, none⟩)) rfl (by kernel_rfl) (by kernel_rfl) (by kernel_rfl) (fun _ _ _ h => h) (Or.inl ⟨by rfl, fun w hSw => by obtain ⟨s1, s2⟩ := hSw; have a0 := s1.c0; have a1 := s1.c1; have a2 := s1.c2; have a3 := s1.c3; have a4 := s1.c4; have b1 := s2.c1; have b2 := s2.c2; go_simp⟩) (by assumption) ?_
    change wpAnyH _ _ _ _ _ _ _ (Act.put _ (some 53) _) _
    simp only [Act.put, List.setIfInBounds_toArray, List.set_cons_zero, List.set_cons_succ]
    refine wpAnyH_take (i := 3) (v := .int .i64 n) rfl (by kernel_rfl) (by kernel_rfl) (by kernel_rfl) (fun _ _ _ h => h) (Or.inl ⟨by rfl, fun w hSw => by obtain ⟨s1, s2⟩ := hSw; have a0 := s1.c0; have a1 := s1.c1; have a2 := s1.c2; have a3 := s1.c3; have a4 := s1.c4; have b1 := s2.c1; have b2 := s2.c2; go_simp⟩) (by assumption) ?_
    change wpAnyH _ _ _ _ _ _ _ (Act.put _ (some 54) _) _
    simp only [Act.put, List.setIfInBounds_toArray, List.set_cons_zero, List.set_cons_succ]
    refine wpAnyH_take (i := 6) (v := v) rfl (by kernel_rfl) (by kernel_rfl) (by kernel_rfl) (fun _ _ _ h => h) (Or.inl ⟨by rfl, fun w hSw => by obtain ⟨s1, s2⟩ := hSw; have a0 := s1.c0; have a1 := s1.c1; have a2 := s1.c2; have a3 := s1.c3; have a4 := s1.c4; have b1 := s2.c1; have b2 := s2.c2; go_simp⟩) (by assumption) ?_
    change wpAnyH _ _ _ _ _ _ _ (Act.put _ (some 57) _) _
    simp only [Act.put, List.setIfInBounds_toArray, List.set_cons_zero, List.set_cons_succ]
    refine wpAnyH_take (i := 7) (v := .agg #[.int .u64 0, .int .u64 0]) rfl (by kernel_rfl) (by kernel_rfl) (by kernel_rfl) (fun _ _ _ h => h) (Or.inl ⟨by rfl, fun w hSw => by obtain ⟨s1, s2⟩ := hSw; have a0 := s1.c0; have a1 := s1.c1; have a2 := s1.c2; have a3 := s1.c3; have a4 := s1.c4; have b1 := s2.c1; have b2 := s2.c2; go_simp⟩) (by assumption) ?_
    change wpAnyH _ _ _ _ _ _ _ (Act.put _ (some 58) _) _
    simp only [Act.put, List.setIfInBounds_toArray, List.set_cons_zero, List.set_cons_succ]
    refine wpAnyH_ready (rs := [4]) (by kernel_rfl) (by simp) ?_
    refine AllReadyH.cons rfl (fun K hK => ?_) (AllReadyH.nil)
    · refine step_enter (F := 22) (vals := #[.int .i64 n]) rfl (by kernel_rfl) ?_
      refine (OPC.out _ G0.out.fl).mono ?_
      rintro e y1 ⟨rfl, hb⟩
      have G1 := Lib.hid (G0.out.next hb)
      have RC1 := Lib.hid (RC0.out.next hb)
      clear hb
      show K (Act.put _ (some 55) _) y1
      refine hK.out _ _ (⟨G1.out.hb, G1.out.ak⟩) (fun hHeld1 => ?_)
      clear hK K
      simp only [Act.put, List.setIfInBounds_toArray, List.set_cons_zero, List.set_cons_succ]
      refine wpAnyH_ready (rs := [5]) (by kernel_rfl) (by simp) ?_
      refine AllReadyH.cons rfl (fun K hK => ?_) (AllReadyH.nil)
      · refine step_enter (F := 21) (vals := #[.agg #[.int .i64 W, .int .i64 (S : Nat), .int .i64 (B : Nat), .int .i64 T, .slice (some ⟨cb, 0, none⟩) len len], .slice (some ⟨b, 0, none⟩) (2 * S) c, .agg #[.int .u64 0, .int .u64 0]]) rfl (by kernel_rfl) ?_
        refine (APC.out _ G1.out.hw G1.out.fl RC1.out).mono ?_
        rintro e y2 ⟨rfl, hw, ho⟩
        have G2 := Lib.hid (G1.out.app hw ho)
        clear hw ho
        show K (Act.put _ (some 56) _) y2
        refine hK.out _ _ (⟨G2.out.hb, G2.out.ak⟩) (fun hHeld2 => ?_)
        clear hK K
        simp only [Act.put, List.setIfInBounds_toArray, List.set_cons_zero, List.set_cons_succ]
        refine wpAnyH_ready (rs := [8]) (by kernel_rfl) (by simp) ?_
        refine AllReadyH.cons rfl (fun K hK => ?_) AllReadyH.nil
        have z0 := G2.out.o1.z0
        have z1 := G2.out.o1.z1
        have f0 := frozen_of (j := 0) G2.out.o1
        have f1 := frozen_of (j := 1) G2.out.o1
        have G8 := Lib.hid (G2.out.set1 x1 x2)
        go_simp
        refine hK.out _ _ (⟨G8.out.hb, G8.out.ak⟩) (fun hHeldZ => ?_)
        clear hK K
        refine wpAnyH_take (i := 9) (v := v) rfl (by kernel_rfl) (by kernel_rfl) (by kernel_rfl) (fun _ _ _ h => h) (Or.inl ⟨by rfl, fun w hSw => by obtain ⟨s1, s2⟩ := hSw; have a0 := s1.c0; have a1 := s1.c1; have a2 := s1.c2; have a3 := s1.c3; have a4 := s1.c4; have b1 := s2.c1; have b2 := s2.c2; go_simp⟩) (by assumption) ?_
        change wpAnyH _ _ _ _ _ _ _ (Act.put _ (some 11) _) _
        simp only [Act.put, List.setIfInBounds_toArray, List.set_cons_zero, List.set_cons_succ]
        refine wpAnyH_ready (rs := [10]) (by kernel_rfl) (by simp) ?_
        refine AllReadyH.cons rfl (fun K hK => ?_) AllReadyH.nil
        have zz0 := G8.out.o2.z0
        have zz1 := G8.out.o2.z1
        have yy0 := G8.out.o2.c0
        have yy1 := G8.out.o2.c1
        have ff0 := frozen_of (j := 0) G8.out.o2
        have ff1 := frozen_of (j := 1) G8.out.o2
        have GA := Lib.hid (G8.out.set2z)
        go_simp
        refine hK.out _ _ (⟨GA.out.hb, GA.out.ak⟩) (fun hHeldY => ?_)
        clear hK K
        refine ⟨by kernel_rfl, ?_⟩
        refine NoPanic.normal ?_
        go_wp2_with fail
        have r0 := GA.out.o1.c0
        have r1 := GA.out.o1.c1
        have r2 := GA.out.o2.c0
        have r3 := GA.out.o2.c1
        exact bodyPost_ret (v := .tuple #[.agg #[.int .u64 (x1 : Nat), .int .u64 (x2 : Nat)], v, .agg #[.int .u64 (0 : Nat), .int .u64 (0 : Nat)]]) (by simp [results, Tryd.results19, go_sem, r0, r1, r2, r3]) rfl ⟨v, by rw [HX.out.1, HX.out.2]; rfl, GA.out.hw, GA.out.rs, GA.out.on⟩


  · have g0 : decide ((0 : Int) ≤ n) = true := by simp; omega
    have g1 : decide (n < 4294967296) = false := by simpa using hq
    go_upto_region 6 with fail
    generalize ((((w.alloc (.cells #[.int .i64 W, .int .i64 (S : Nat), .int .i64 (B : Nat), .int .i64 T, .slice (some ⟨cb, 0, none⟩) len len] 29)).alloc (.cells #[.int .i64 W, .int .i64 (S : Nat), .int .i64 (B : Nat), .int .i64 T, .slice ad len cap] 24)).alloc (.cells #[.int .i64 1, .int .i64 n, .int .u64 (m : Nat), .int .u64 (a : Nat), .int .u64 (d : Nat)] 39)).alloc (.cells #[.int .u64 0, .int .u64 0] 37)).alloc (.cells #[.int .u64 0, .int .u64 0] 37) = w5 at *
    have hlo := D0.out.lo
    generalize hP : w.heap.size = P at *
    have G := D0
    have RC := RC0
    clear k0 k1 D0 RC0 HB
    refine wp_region_noPanic ?_
    refine wp_region_held_drew (S := fun w' => HBox w' P W (S : Nat) (B : Nat) T (.slice (some ⟨cb, 0, none⟩) len len) ∧ AkBox w' (P + 2) 1 n m a d) (by kernel_rfl) (⟨(G.out.next ((Below.refl _ _).drew)).hb, (G.out.next ((Below.refl _ _).drew)).ak⟩) (fun hHeld => ?_)
    have DR := (Below.refl w5.heap.size w5).drew
    have G0 := Lib.hid (G.out.next DR)
    have RC0 := Lib.hid (RC.out.next DR)
    clear DR
    generalize w5.drew = z0 at *
    refine wpAnyH_take (i := 0) (v := .agg #[.int .i64 W, .int .i64 (S : Nat), .int .i64 (B : Nat), .int .i64 T, .slice (some ⟨cb, 0, none⟩) len len]) rfl (by kernel_rfl) (by kernel_rfl) (by kernel_rfl) (fun _ _ _ h => h) (Or.inl ⟨by rfl, fun w hSw => by obtain ⟨s1, s2⟩ := hSw; have a0 := s1.c0; have a1 := s1.c1; have a2 := s1.c2; have a3 := s1.c3; have a4 := s1.c4; have b1 := s2.c1; have b2 := s2.c2; go_simp⟩) (by assumption) ?_
    change wpAnyH _ _ _ _ _ _ _ (Act.put _ (some 51) _) _
    simp only [Act.put, List.setIfInBounds_toArray, List.set_cons_zero, List.set_cons_succ]
    refine wpAnyH_take (i := 1) (v := .slice (some ⟨b, 0, none⟩) (2 * S) c) rfl (by kernel_rfl) (by kernel_rfl) (by kernel_rfl) (fun _ _ _ h => h) (Or.inl ⟨by rfl, fun w hSw => by obtain ⟨s1, s2⟩ := hSw; have a0 := s1.c0; have a1 := s1.c1; have a2 := s1.c2; have a3 := s1.c3; have a4 := s1.c4; have b1 := s2.c1; have b2 := s2.c2; go_simp⟩) (by assumption) ?_
    change wpAnyH _ _ _ _ _ _ _ (Act.put _ (some 52) _) _
    simp only [Act.put, List.setIfInBounds_toArray, List.set_cons_zero, List.set_cons_succ]
    refine wpAnyH_take (i := 2) (v := .pointer (some ⟨P + 2, 1, none⟩)) rfl (by kernel_rfl) (by kernel_rfl) (by kernel_rfl) (fun _ _ _ h => h) (Or.inl ⟨by rfl, fun w hSw => by obtain ⟨s1, s2⟩ := hSw; have a0 := s1.c0; have a1 := s1.c1; have a2 := s1.c2; have a3 := s1.c3; have a4 := s1.c4; have b1 := s2.c1; have b2 := s2.c2; go_simp⟩) (by assumption) ?_
    change wpAnyH _ _ _ _ _ _ _ (Act.put _ (some 53) _) _
    simp only [Act.put, List.setIfInBounds_toArray, List.set_cons_zero, List.set_cons_succ]
    refine wpAnyH_take (i := 3) (v := .int .i64 n) rfl (by kernel_rfl) (by kernel_rfl) (by kernel_rfl) (fun _ _ _ h => h) (Or.inl ⟨by rfl, fun w hSw => by obtain ⟨s1, s2⟩ := hSw; have a0 := s1.c0; have a1 := s1.c1; have a2 := s1.c2; have a3 := s1.c3; have a4 := s1.c4; have b1 := s2.c1; have b2 := s2.c2; go_simp⟩) (by assumption) ?_
    change wpAnyH _ _ _ _ _ _ _ (Act.put _ (some 54) _) _
    simp only [Act.put, List.setIfInBounds_toArray, List.set_cons_zero, List.set_cons_succ]
    refine wpAnyH_take (i := 6) (v := v) rfl (by kernel_rfl) (by kernel_rfl) (by kernel_rfl) (fun _ _ _ h => h) (Or.inl ⟨by rfl, fun w hSw => by obtain ⟨s1, s2⟩ := hSw; have a0 := s1.c0; have a1 := s1.c1; have a2 := s1.c2; have a3 := s1.c3; have a4 := s1.c4; have b1 := s2.c1; have b2 := s2.c2; go_simp⟩) (by assumption) ?_
    change wpAnyH _ _ _ _ _ _ _ (Act.put _ (some 57) _) _
    simp only [Act.put, List.setIfInBounds_toArray, List.set_cons_zero, List.set_cons_succ]
    refine wpAnyH_take (i := 7) (v := .agg #[.int .u64 0, .int .u64 0]) rfl (by kernel_rfl) (by kernel_rfl) (by kernel_rfl) (fun _ _ _ h => h) (Or.inl ⟨by rfl, fun w hSw => by obtain ⟨s1, s2⟩ := hSw; have a0 := s1.c0; have a1 := s1.c1; have a2 := s1.c2; have a3 := s1.c3; have a4 := s1.c4; have b1 := s2.c1; have b2 := s2.c2; go_simp⟩) (by assumption) ?_
    change wpAnyH _ _ _ _ _ _ _ (Act.put _ (some 58) _) _
    simp only [Act.put, List.setIfInBounds_toArray, List.set_cons_zero, List.set_cons_succ]
    refine wpAnyH_ready (rs := [4]) (by kernel_rfl) (by simp) ?_
    refine AllReadyH.cons rfl (fun K hK => ?_) (AllReadyH.nil)
    · refine step_enter (F := 22) (vals := #[.int .i64 n]) rfl (by kernel_rfl) ?_
      refine (OPC.out _ G0.out.fl).mono ?_
      rintro e y1 ⟨rfl, hb⟩
      have G1 := Lib.hid (G0.out.next hb)
      have RC1 := Lib.hid (RC0.out.next hb)
      clear hb
      show K (Act.put _ (some 55) _) y1
      refine hK.out _ _ (⟨G1.out.hb, G1.out.ak⟩) (fun hHeld1 => ?_)
      clear hK K
      simp only [Act.put, List.setIfInBounds_toArray, List.set_cons_zero, List.set_cons_succ]
      refine wpAnyH_ready (rs := [5]) (by kernel_rfl) (by simp) ?_
      refine AllReadyH.cons rfl (fun K hK => ?_) (AllReadyH.nil)
      · refine step_enter (F := 21) (vals := #[.agg #[.int .i64 W, .int .i64 (S : Nat), .int .i64 (B : Nat), .int .i64 T, .slice (some ⟨cb, 0, none⟩) len len], .slice (some ⟨b, 0, none⟩) (2 * S) c, .agg #[.int .u64 0, .int .u64 0]]) rfl (by kernel_rfl) ?_
        refine (APC.out _ G1.out.hw G1.out.fl RC1.out).mono ?_
        rintro e y2 ⟨rfl, hw, ho⟩
        have G2 := Lib.hid (G1.out.app hw ho)
        clear hw ho
        show K (Act.put _ (some 56) _) y2
        refine hK.out _ _ (⟨G2.out.hb, G2.out.ak⟩) (fun hHeld2 => ?_)
        clear hK K
        simp only [Act.put, List.setIfInBounds_toArray, List.set_cons_zero, List.set_cons_succ]
        refine wpAnyH_ready (rs := [8]) (by kernel_rfl) (by simp) ?_
        refine AllReadyH.cons rfl (fun K hK => ?_) AllReadyH.nil
        have z0 := G2.out.o1.z0
        have z1 := G2.out.o1.z1
        have f0 := frozen_of (j := 0) G2.out.o1
        have f1 := frozen_of (j := 1) G2.out.o1
        have G8 := Lib.hid (G2.out.set1 x1 x2)
        go_simp
        refine hK.out _ _ (⟨G8.out.hb, G8.out.ak⟩) (fun hHeldZ => ?_)
        clear hK K
        refine wpAnyH_take (i := 9) (v := v) rfl (by kernel_rfl) (by kernel_rfl) (by kernel_rfl) (fun _ _ _ h => h) (Or.inl ⟨by rfl, fun w hSw => by obtain ⟨s1, s2⟩ := hSw; have a0 := s1.c0; have a1 := s1.c1; have a2 := s1.c2; have a3 := s1.c3; have a4 := s1.c4; have b1 := s2.c1; have b2 := s2.c2; go_simp⟩) (by assumption) ?_
        change wpAnyH _ _ _ _ _ _ _ (Act.put _ (some 11) _) _
        simp only [Act.put, List.setIfInBounds_toArray, List.set_cons_zero, List.set_cons_succ]
        refine wpAnyH_ready (rs := [10]) (by kernel_rfl) (by simp) ?_
        refine AllReadyH.cons rfl (fun K hK => ?_) AllReadyH.nil
        have zz0 := G8.out.o2.z0
        have zz1 := G8.out.o2.z1
        have yy0 := G8.out.o2.c0
        have yy1 := G8.out.o2.c1
        have ff0 := frozen_of (j := 0) G8.out.o2
        have ff1 := frozen_of (j := 1) G8.out.o2
        have GA := Lib.hid (G8.out.set2z)
        go_simp
        refine hK.out _ _ (⟨GA.out.hb, GA.out.ak⟩) (fun hHeldY => ?_)
        clear hK K
        refine ⟨by kernel_rfl, ?_⟩
        refine NoPanic.normal ?_
        go_wp2_with fail
        have r0 := GA.out.o1.c0
        have r1 := GA.out.o1.c1
        have r2 := GA.out.o2.c0
        have r3 := GA.out.o2.c1
        exact bodyPost_ret (v := .tuple #[.agg #[.int .u64 (x1 : Nat), .int .u64 (x2 : Nat)], v, .agg #[.int .u64 (0 : Nat), .int .u64 (0 : Nat)]]) (by simp [results, Tryd.results19, go_sem, r0, r1, r2, r3]) rfl ⟨v, by rw [HX.out.1, HX.out.2]; rfl, GA.out.hw, GA.out.rs, GA.out.on⟩


set_option maxRecDepth 20000 in
set_option maxHeartbeats 8000000 in
theorem do6_any (W T : Int) (S B : Nat) (ad : Option Addr) (len cap : Nat) (v : Value) (l : List Sb) (b cb c : Nat) (k n : Int) (m a d : Nat) (w : World) (hW : Hid (HW w b l [])) (hR : Hid (RS w v l)) (hF : Hid (FldAt w)) (hk : k ≠ 1) (hn : (0 ≤ n ∧ n < 4294967296) → k ≠ 2 ∧ k ≠ 3 ∧ k ≠ 4) (hb3 : 3 ≤ b) :
    Calls Tryd.prog 19 #[.agg #[.int .i64 W, .int .i64 (S : Nat), .int .i64 (B : Nat), .int .i64 T, .slice (some ⟨cb, 0, none⟩) len len], .agg #[.int .i64 W, .int .i64 (S : Nat), .int .i64 (B : Nat), .int .i64 T, .slice ad len cap], .slice (some ⟨b, 0, none⟩) (2 * S) c, v, .agg #[.int .i64 k, .int .i64 n, .int .u64 (m : Nat), .int .u64 (a : Nat), .int .u64 (d : Nat)]] w (DoPost w b (l, (0, 0))) := by
  have D0 := Lib.hid (dq_start (k := k) (n := n) (m := m) (a := a) (d := d) (W := W) (T := T) (S := S) (B := B) (len := len) (cap := cap) (ad := ad) (cb := cb) hW.out hR.out hF.out hb3)
  have k0 := D0.out.ak.c0
  have k1 := D0.out.ak.c1
  have h1 : decide (k = 1) = false := by simpa using hk
  go_enter Tryd.func19, Tryd.ntmps19
  by_cases hi : 0 ≤ n ∧ n < 4294967296
  · obtain ⟨q2, q3, q4⟩ := hn hi
    have g0 : decide ((0 : Int) ≤ n) = true := by simp; omega
    have g1 : decide (n < 4294967296) = true := by simp; omega
    have h2 : decide (k = 2) = false := by simpa using q2
    have h3 : decide (k = 3) = false := by simpa using q3
    have h4 : decide (k = 4) = false := by simpa using q4
    have z0 := D0.out.o1.z0
    have z1 := D0.out.o1.z1
    have f0 := frozen_of (j := 0) D0.out.o1
    have f1 := frozen_of (j := 1) D0.out.o1
    have y0 := D0.out.o2.z0
    have y1 := D0.out.o2.z1
    have e0 := frozen_of (j := 0) D0.out.o2
    have e1 := frozen_of (j := 1) D0.out.o2
    go_upto_region 16 with fail
    generalize ((((w.alloc (.cells #[.int .i64 W, .int .i64 (S : Nat), .int .i64 (B : Nat), .int .i64 T, .slice (some ⟨cb, 0, none⟩) len len] 29)).alloc (.cells #[.int .i64 W, .int .i64 (S : Nat), .int .i64 (B : Nat), .int .i64 T, .slice ad len cap] 24)).alloc (.cells #[.int .i64 k, .int .i64 n, .int .u64 (m : Nat), .int .u64 (a : Nat), .int .u64 (d : Nat)] 39)).alloc (.cells #[.int .u64 0, .int .u64 0] 37)).alloc (.cells #[.int .u64 0, .int .u64 0] 37) = w5 at *
    generalize hP : w.heap.size = P at *
    go_wp2_with fail
    have GA := Lib.hid ((D0.out.set1z).set2z)
    have r0 := GA.out.o1.c0
    have r1 := GA.out.o1.c1
    have r2 := GA.out.o2.c0
    have r3 := GA.out.o2.c1
    exact bodyPost_ret (v := .tuple #[.agg #[.int .u64 (0 : Nat), .int .u64 (0 : Nat)], v, .agg #[.int .u64 (0 : Nat), .int .u64 (0 : Nat)]]) (by simp [results, Tryd.results19, go_sem, r0, r1, r2, r3]) rfl ⟨v, rfl, GA.out.hw, GA.out.rs, GA.out.on⟩
  · rcases (by omega : n < 0 ∨ 4294967296 ≤ n) with hq | hq
    · have g0 : decide ((0 : Int) ≤ n) = false := by simpa using hq
      rcases (by omega : k = 2 ∨ k = 3 ∨ k = 4 ∨ (k ≠ 2 ∧ k ≠ 3 ∧ k ≠ 4)) with q | q | q | ⟨q2, q3, q4⟩
      · subst q
        clear h1 hk hn
        have z0 := D0.out.o1.z0
        have z1 := D0.out.o1.z1
        have f0 := frozen_of (j := 0) D0.out.o1
        have f1 := frozen_of (j := 1) D0.out.o1
        have y0 := D0.out.o2.z0
        have y1 := D0.out.o2.z1
        have e0 := frozen_of (j := 0) D0.out.o2
        have e1 := frozen_of (j := 1) D0.out.o2
        go_upto_region 16 with fail
        generalize ((((w.alloc (.cells #[.int .i64 W, .int .i64 (S : Nat), .int .i64 (B : Nat), .int .i64 T, .slice (some ⟨cb, 0, none⟩) len len] 29)).alloc (.cells #[.int .i64 W, .int .i64 (S : Nat), .int .i64 (B : Nat), .int .i64 T, .slice ad len cap] 24)).alloc (.cells #[.int .i64 2, .int .i64 n, .int .u64 (m : Nat), .int .u64 (a : Nat), .int .u64 (d : Nat)] 39)).alloc (.cells #[.int .u64 0, .int .u64 0] 37)).alloc (.cells #[.int .u64 0, .int .u64 0] 37) = w5 at *
        generalize hP : w.heap.size = P at *
        go_wp2_with fail
        have GA := Lib.hid ((D0.out.set1z).set2z)
        have r0 := GA.out.o1.c0
        have r1 := GA.out.o1.c1
        have r2 := GA.out.o2.c0
        have r3 := GA.out.o2.c1
        exact bodyPost_ret (v := .tuple #[.agg #[.int .u64 (0 : Nat), .int .u64 (0 : Nat)], v, .agg #[.int .u64 (0 : Nat), .int .u64 (0 : Nat)]]) (by simp [results, Tryd.results19, go_sem, r0, r1, r2, r3]) rfl ⟨v, rfl, GA.out.hw, GA.out.rs, GA.out.on⟩
      · subst q
        clear h1 hk hn
        have z0 := D0.out.o1.z0
        have z1 := D0.out.o1.z1
        have f0 := frozen_of (j := 0) D0.out.o1
        have f1 := frozen_of (j := 1) D0.out.o1
        have y0 := D0.out.o2.z0
        have y1 := D0.out.o2.z1
        have e0 := frozen_of (j := 0) D0.out.o2
        have e1 := frozen_of (j := 1) D0.out.o2
        go_upto_region 16 with fail
        generalize ((((w.alloc (.cells #[.int .i64 W, .int .i64 (S : Nat), .int .i64 (B : Nat), .int .i64 T, .slice (some ⟨cb, 0, none⟩) len len] 29)).alloc (.cells #[.int .i64 W, .int .i64 (S : Nat), .int .i64 (B : Nat), .int .i64 T, .slice ad len cap] 24)).alloc (.cells #[.int .i64 3, .int .i64 n, .int .u64 (m : Nat), .int .u64 (a : Nat), .int .u64 (d : Nat)] 39)).alloc (.cells #[.int .u64 0, .int .u64 0] 37)).alloc (.cells #[.int .u64 0, .int .u64 0] 37) = w5 at *
        generalize hP : w.heap.size = P at *
        go_wp2_with fail
        have GA := Lib.hid ((D0.out.set1z).set2z)
        have r0 := GA.out.o1.c0
        have r1 := GA.out.o1.c1
        have r2 := GA.out.o2.c0
        have r3 := GA.out.o2.c1
        exact bodyPost_ret (v := .tuple #[.agg #[.int .u64 (0 : Nat), .int .u64 (0 : Nat)], v, .agg #[.int .u64 (0 : Nat), .int .u64 (0 : Nat)]]) (by simp [results, Tryd.results19, go_sem, r0, r1, r2, r3]) rfl ⟨v, rfl, GA.out.hw, GA.out.rs, GA.out.on⟩
      · subst q
        clear h1 hk hn
        have z0 := D0.out.o1.z0
        have z1 := D0.out.o1.z1
        have f0 := frozen_of (j := 0) D0.out.o1
        have f1 := frozen_of (j := 1) D0.out.o1
        have y0 := D0.out.o2.z0
        have y1 := D0.out.o2.z1
        have e0 := frozen_of (j := 0) D0.out.o2
        have e1 := frozen_of (j := 1) D0.out.o2
        go_upto_region 16 with fail
        generalize ((((w.alloc (.cells #[.int .i64 W, .int .i64 (S : Nat), .int .i64 (B : Nat), .int .i64 T, .slice (some ⟨cb, 0, none⟩) len len] 29)).alloc (.cells #[.int .i64 W, .int .i64 (S : Nat), .int .i64 (B : Nat), .int .i64 T, .slice ad len cap] 24)).alloc (.cells #[.int .i64 4, .int .i64 n, .int .u64 (m : Nat), .int .u64 (a : Nat), .int .u64 (d : Nat)] 39)).alloc (.cells #[.int .u64 0, .int .u64 0] 37)).alloc (.cells #[.int .u64 0, .int .u64 0] 37) = w5 at *
        generalize hP : w.heap.size = P at *
        go_wp2_with fail
        have GA := Lib.hid ((D0.out.set1z).set2z)
        have r0 := GA.out.o1.c0
        have r1 := GA.out.o1.c1
        have r2 := GA.out.o2.c0
        have r3 := GA.out.o2.c1
        exact bodyPost_ret (v := .tuple #[.agg #[.int .u64 (0 : Nat), .int .u64 (0 : Nat)], v, .agg #[.int .u64 (0 : Nat), .int .u64 (0 : Nat)]]) (by simp [results, Tryd.results19, go_sem, r0, r1, r2, r3]) rfl ⟨v, rfl, GA.out.hw, GA.out.rs, GA.out.on⟩
      · have h2 : decide (k = 2) = false := by simpa using q2
        have h3 : decide (k = 3) = false := by simpa using q3
        have h4 : decide (k = 4) = false := by simpa using q4
        have z0 := D0.out.o1.z0
        have z1 := D0.out.o1.z1
        have f0 := frozen_of (j := 0) D0.out.o1
        have f1 := frozen_of (j := 1) D0.out.o1
        have y0 := D0.out.o2.z0
        have y1 := D0.out.o2.z1
        have e0 := frozen_of (j := 0) D0.out.o2
        have e1 := frozen_of (j := 1) D0.out.o2
        go_upto_region 16 with fail
        generalize ((((w.alloc (.cells #[.int .i64 W, .int .i64 (S : Nat), .int .i64 (B : Nat), .int .i64 T, .slice (some ⟨cb, 0, none⟩) len len] 29)).alloc (.cells #[.int .i64 W, .int .i64 (S : Nat), .int .i64 (B : Nat), .int .i64 T, .slice ad len cap] 24)).alloc (.cells #[.int .i64 k, .int .i64 n, .int .u64 (m : Nat), .int .u64 (a : Nat), .int .u64 (d : Nat)] 39)).alloc (.cells #[.int .u64 0, .int .u64 0] 37)).alloc (.cells #[.int .u64 0, .int .u64 0] 37) = w5 at *
        generalize hP : w.heap.size = P at *
        go_wp2_with fail
        have GA := Lib.hid ((D0.out.set1z).set2z)
        have r0 := GA.out.o1.c0
        have r1 := GA.out.o1.c1
        have r2 := GA.out.o2.c0
        have r3 := GA.out.o2.c1
        exact bodyPost_ret (v := .tuple #[.agg #[.int .u64 (0 : Nat), .int .u64 (0 : Nat)], v, .agg #[.int .u64 (0 : Nat), .int .u64 (0 : Nat)]]) (by simp [results, Tryd.results19, go_sem, r0, r1, r2, r3]) rfl ⟨v, rfl, GA.out.hw, GA.out.rs, GA.out.on⟩
    · have g0 : decide ((0 : Int) ≤ n) = true := by simp; omega
      have g1 : decide (n < 4294967296) = false := by simpa using hq
      rcases (by omega : k = 2 ∨ k = 3 ∨ k = 4 ∨ (k ≠ 2 ∧ k ≠ 3 ∧ k ≠ 4)) with q | q | q | ⟨q2, q3, q4⟩
      · subst q
        clear h1 hk hn
        have z0 := D0.out.o1.z0
        have z1 := D0.out.o1.z1
        have f0 := frozen_of (j := 0) D0.out.o1
        have f1 := frozen_of (j := 1) D0.out.o1
        have y0 := D0.out.o2.z0
        have y1 := D0.out.o2.z1
        have e0 := frozen_of (j := 0) D0.out.o2
        have e1 := frozen_of (j := 1) D0.out.o2
        go_upto_region 16 with fail
        generalize ((((w.alloc (.cells #[.int .i64 W, .int .i64 (S : Nat), .int .i64 (B : Nat), .int .i64 T, .slice (some ⟨cb, 0, none⟩) len len] 29)).alloc (.cells #[.int .i64 W, .int .i64 (S : Nat), .int .i64 (B : Nat), .int .i64 T, .slice ad len cap] 24)).alloc (.cells #[.int .i64 2, .int .i64 n, .int .u64 (m : Nat), .int .u64 (a : Nat), .int .u64 (d : Nat)] 39)).alloc (.cells #[.int .u64 0, .int .u64 0] 37)).alloc (.cells #[.int .u64 0, .int .u64 0] 37) = w5 at *
        generalize hP : w.heap.size = P at *
        go_wp2_with fail
        have GA := Lib.hid ((D0.out.set1z).set2z)
        have r0 := GA.out.o1.c0
        have r1 := GA.out.o1.c1
        have r2 := GA.out.o2.c0
        have r3 := GA.out.o2.c1
        exact bodyPost_ret (v := .tuple #[.agg #[.int .u64 (0 : Nat), .int .u64 (0 : Nat)], v, .agg #[.int .u64 (0 : Nat), .int .u64 (0 : Nat)]]) (by simp [results, Tryd.results19, go_sem, r0, r1, r2, r3]) rfl ⟨v, rfl, GA.out.hw, GA.out.rs, GA.out.on⟩
      · subst q
        clear h1 hk hn
        have z0 := D0.out.o1.z0
        have z1 := D0.out.o1.z1
        have f0 := frozen_of (j := 0) D0.out.o1
        have f1 := frozen_of (j := 1) D0.out.o1
        have y0 := D0.out.o2.z0
        have y1 := D0.out.o2.z1
        have e0 := frozen_of (j := 0) D0.out.o2
        have e1 := frozen_of (j := 1) D0.out.o2
        go_upto_region 16 with fail
        generalize ((((w.alloc (.cells #[.int .i64 W, .int .i64 (S : Nat), .int .i64 (B : Nat), .int .i64 T, .slice (some ⟨cb, 0, none⟩) len len] 29)).alloc (.cells #[.int .i64 W, .int .i64 (S : Nat), .int .i64 (B : Nat), .int .i64 T, .slice ad len cap] 24)).alloc (.cells #[.int .i64 3, .int .i64 n, .int .u64 (m : Nat), .int .u64 (a : Nat), .int .u64 (d : Nat)] 39)).alloc (.cells #[.int .u64 0, .int .u64 0] 37)).alloc (.cells #[.int .u64 0, .int .u64 0] 37) = w5 at *
        generalize hP : w.heap.size = P at *
        go_wp2_with fail
        have GA := Lib.hid ((D0.out.set1z).set2z)
        have r0 := GA.out.o1.c0
        have r1 := GA.out.o1.c1
        have r2 := GA.out.o2.c0
        have r3 := GA.out.o2.c1
        exact bodyPost_ret (v := .tuple #[.agg #[.int .u64 (0 : Nat), .int .u64 (0 : Nat)], v, .agg #[.int .u64 (0 : Nat), .int .u64 (0 : Nat)]]) (by simp [results, Tryd.results19, go_sem, r0, r1, r2, r3]) rfl ⟨v, rfl, GA.out.hw, GA.out.rs, GA.out.on⟩
      · subst q
        clear h1 hk hn
        have z0 := D0.out.o1.z0
        have z1 := D0.out.o1.z1
        have f0 := frozen_of (j := 0) D0.out.o1
        have f1 := frozen_of (j := 1) D0.out.o1
        have y0 := D0.out.o2.z0
        have y1 := D0.out.o2.z1
        have e0 := frozen_of (j := 0) D0.out.o2
        have e1 := frozen_of (j := 1) D0.out.o2
        go_upto_region 16 with fail
        generalize ((((w.alloc (.cells #[.int .i64 W, .int .i64 (S : Nat), .int .i64 (B : Nat), .int .i64 T, .slice (some ⟨cb, 0, none⟩) len len] 29)).alloc (.cells #[.int .i64 W, .int .i64 (S : Nat), .int .i64 (B : Nat), .int .i64 T, .slice ad len cap] 24)).alloc (.cells #[.int .i64 4, .int .i64 n, .int .u64 (m : Nat), .int .u64 (a : Nat), .int .u64 (d : Nat)] 39)).alloc (.cells #[.int .u64 0, .int .u64 0] 37)).alloc (.cells #[.int .u64 0, .int .u64 0] 37) = w5 at *
        generalize hP : w.heap.size = P at *
        go_wp2_with fail
        have GA := Lib.hid ((D0.out.set1z).set2z)
        have r0 := GA.out.o1.c0
        have r1 := GA.out.o1.c1
        have r2 := GA.out.o2.c0
        have r3 := GA.out.o2.c1
        exact bodyPost_ret (v := .tuple #[.agg #[.int .u64 (0 : Nat), .int .u64 (0 : Nat)], v, .agg #[.int .u64 (0 : Nat), .int .u64 (0 : Nat)]]) (by simp [results, Tryd.results19, go_sem, r0, r1, r2, r3]) rfl ⟨v, rfl, GA.out.hw, GA.out.rs, GA.out.on⟩
      · have h2 : decide (k = 2) = false := by simpa using q2
        have h3 : decide (k = 3) = false := by simpa using q3
        have h4 : decide (k = 4) = false := by simpa using q4
        have z0 := D0.out.o1.z0
        have z1 := D0.out.o1.z1
        have f0 := frozen_of (j := 0) D0.out.o1
        have f1 := frozen_of (j := 1) D0.out.o1
        have y0 := D0.out.o2.z0
        have y1 := D0.out.o2.z1
        have e0 := frozen_of (j := 0) D0.out.o2
        have e1 := frozen_of (j := 1) D0.out.o2
        go_upto_region 16 with fail
        generalize ((((w.alloc (.cells #[.int .i64 W, .int .i64 (S : Nat), .int .i64 (B : Nat), .int .i64 T, .slice (some ⟨cb, 0, none⟩) len len] 29)).alloc (.cells #[.int .i64 W, .int .i64 (S : Nat), .int .i64 (B : Nat), .int .i64 T, .slice ad len cap] 24)).alloc (.cells #[.int .i64 k, .int .i64 n, .int .u64 (m : Nat), .int .u64 (a : Nat), .int .u64 (d : Nat)] 39)).alloc (.cells #[.int .u64 0, .int .u64 0] 37)).alloc (.cells #[.int .u64 0, .int .u64 0] 37) = w5 at *
        generalize hP : w.heap.size = P at *
        go_wp2_with fail
        have GA := Lib.hid ((D0.out.set1z).set2z)
        have r0 := GA.out.o1.c0
        have r1 := GA.out.o1.c1
        have r2 := GA.out.o2.c0
        have r3 := GA.out.o2.c1
        exact bodyPost_ret (v := .tuple #[.agg #[.int .u64 (0 : Nat), .int .u64 (0 : Nat)], v, .agg #[.int .u64 (0 : Nat), .int .u64 (0 : Nat)]]) (by simp [results, Tryd.results19, go_sem, r0, r1, r2, r3]) rfl ⟨v, rfl, GA.out.hw, GA.out.rs, GA.out.on⟩
/-- What the document asks of one thing. -/
def doP (cap : Nat → Nat) (B : Nat) (l : List Sb) (q : Qk) : List Sb × (Nat × Nat) :=
  if 0 ≤ q.n ∧ q.n < 4294967296 then (if q.k = 1 then refillP cap B l q.n.toNat else if q.k = 2 then flushP cap l q.n.toNat q.m else if q.k = 3 then takeP l q.n.toNat else if q.k = 4 then giveP l q.n.toNat else (l, (0, 0))) else (l, (0, 0))
theorem do_any (W T : Int) (S B : Nat) (ad : Option Addr) (len cap : Nat) (f : Nat → Int) (v : Value) (l : List Sb) (b cb c : Nat) (q : Qk) (w : World) (hW : Hid (HW w b l [])) (hR : Hid (RS w v l)) (hF : Hid (FldAt w)) (hr : Hid (RowI w ad len f)) (hc : Hid (RowI w (some ⟨cb, 0, none⟩) len f)) (ok : Hid (ClsOk len f)) (hin : Hid (InR l)) (hS : Hid (S = l.length)) (hB : B ≤ 64) (hq : q.fine) (hb3 : 3 ≤ b) :
    Calls Tryd.prog 19 #[.agg #[.int .i64 W, .int .i64 (S : Nat), .int .i64 (B : Nat), .int .i64 T, .slice (some ⟨cb, 0, none⟩) len len], .agg #[.int .i64 W, .int .i64 (S : Nat), .int .i64 (B : Nat), .int .i64 T, .slice ad len cap], .slice (some ⟨b, 0, none⟩) (2 * S) c, v, .agg #[.int .i64 q.k, .int .i64 q.n, .int .u64 (q.m : Nat), .int .u64 (q.a : Nat), .int .u64 (q.d : Nat)]] w (DoPost w b (doP (capN len f) B l q)) := by
  obtain ⟨k, n, m, a, d⟩ := q
  obtain ⟨⟨n1, n2⟩, m2, a2, d2⟩ := hq
  simp only at n1 n2 m2 a2 d2
  unfold doP
  simp only
  by_cases hi : 0 ≤ n ∧ n < 4294967296
  · obtain ⟨n, rfl⟩ := Int.eq_ofNat_of_zero_le hi.1
    rw [if_pos hi, Int.toNat_natCast]
    have hn : n < 4294967296 := by omega
    by_cases h1 : k = 1
    · subst h1; rw [if_pos rfl]; exact do1_any W T S B ad len cap f v l b cb c n m a d w hW hR hF hr hc ok hS hB hn hb3
    · rw [if_neg h1]
      by_cases h2 : k = 2
      · subst h2; rw [if_pos rfl]; exact do2_any W T S B ad len cap f v l b cb c n m a d w hW hR hF hr hc ok hS hB hn m2 hb3
      · rw [if_neg h2]
        by_cases h3 : k = 3
        · subst h3; rw [if_pos rfl]; exact do3_any W T S B ad len cap f v l b cb c n m a d w hW hR hF hr hc ok hS hB hn hb3
        · rw [if_neg h3]
          by_cases h4 : k = 4
          · subst h4; rw [if_pos rfl]; exact do4_any W T S B ad len cap f v l b cb c n m a d w hW hR hF hr hc ok hin hS hB hn hb3
          · rw [if_neg h4]; exact do6_any W T S B ad len cap v l b cb c k n m a d w hW hR hF h1 (fun _ => ⟨h2, h3, h4⟩) hb3
  · rw [if_neg hi]
    by_cases h1 : k = 1
    · subst h1; exact do5_any W T S B ad len cap f v l b cb c n m a d w hW hR hF hc ok hS hB hi n1 n2 hb3
    · exact do6_any W T S B ad len cap v l b cb c k n m a d w hW hR hF h1 (fun h => absurd h hi) hb3
theorem inR_do {cap : Nat → Nat} {B : Nat} {l : List Sb} (q : Qk) (h : InR l) : InR (doP cap B l q).1 := by
  unfold doP
  split
  case isTrue hn =>
    obtain ⟨n, hn2⟩ := Int.eq_ofNat_of_zero_le hn.1
    rw [hn2, Int.toNat_natCast]
    have hn3 : n < 4294967296 := by omega
    split
    · have := inR_app (cap := cap) (batch := B) (1 + 256 * n, 0) h; rwa [app1 (by omega) (by omega), show (1 + 256 * n) / 256 = n from by omega] at this
    · split
      · have := inR_app (cap := cap) (batch := B) (2 + 256 * n, q.m) h; rwa [app2 (by omega) (by omega), show (2 + 256 * n) / 256 = n from by omega] at this
      · split
        · have := inR_app (cap := cap) (batch := B) (3 + 256 * n, 0) h; rwa [app3 (by omega) (by omega), show (3 + 256 * n) / 256 = n from by omega] at this
        · split
          · have := inR_app (cap := cap) (batch := B) (4 + 256 * n, 0) h; rwa [app4 (by omega) (by omega), show (4 + 256 * n) / 256 = n from by omega] at this
          · exact h
  · exact h
theorem len_do {cap : Nat → Nat} {B : Nat} {l : List Sb} (q : Qk) (h : OkL l) (hm : q.m < 18446744073709551616) (hc : ∀ c, cap c ≤ 64) : (doP cap B l q).1.length = l.length := by
  unfold doP
  split
  case isTrue hn =>
    obtain ⟨n, hn2⟩ := Int.eq_ofNat_of_zero_le hn.1
    rw [hn2, Int.toNat_natCast]
    have hn3 : n < 4294967296 := by omega
    split
    · have := (app_good (cap := cap) (batch := B) (1 + 256 * n, 0) h (by simp) hc).1; rwa [app1 (by omega) (by omega), show (1 + 256 * n) / 256 = n from by omega] at this
    · split
      · have := (app_good (cap := cap) (batch := B) (2 + 256 * n, q.m) h hm hc).1; rwa [app2 (by omega) (by omega), show (2 + 256 * n) / 256 = n from by omega] at this
      · split
        · have := (app_good (cap := cap) (batch := B) (3 + 256 * n, 0) h (by simp) hc).1; rwa [app3 (by omega) (by omega), show (3 + 256 * n) / 256 = n from by omega] at this
        · split
          · have := (app_good (cap := cap) (batch := B) (4 + 256 * n, 0) h (by simp) hc).1; rwa [app4 (by omega) (by omega), show (4 + 256 * n) / 256 = n from by omega] at this
          · rfl
  · rfl
end Go.Proofs.YtkogeeaoppkhkaaDoor
