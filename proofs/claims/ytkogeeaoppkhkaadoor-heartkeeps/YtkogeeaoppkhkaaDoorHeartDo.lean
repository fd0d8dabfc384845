/-
  chandlerylaw11.do: the four arms that ask something that may be. (Printed by mkheartdo.py.)
-/
import Derived.Test.YtkogeeaoppkhkaaDoorHeartD
namespace Go.Proofs.YtkogeeaoppkhkaaDoor
open Go.RowKit Go.Sort Go.Shelf

def DoPost (w : World) (b : Nat) (x : List Sb × (Nat × Nat)) (e : Ending) (w' : World) : Prop := ∃ v', e = .returned (.tuple #[opV x.2, v', opV x.2]) ∧ HW w' b x.1 [] ∧ RS w' v' x.1 ∧ Only [b] w w'
theorem below5 (w : World) (x1 x2 x3 x4 x5 : Obj) : Below w.heap.size w (((((w.alloc x1).alloc x2).alloc x3).alloc x4).alloc x5) :=
  belA (belA (belA (belA (box1 w x1) x2) x3) x4) x5
set_option maxRecDepth 20000 in
set_option maxHeartbeats 8000000 in
theorem do1_any (W T : Int) (S B : Nat) (ad : Option Addr) (len cap : Nat) (f : Nat → Int) (v : Value) (l : List Sb) (b cb c n m a d : Nat) (w : World) (hW : Hid (HW w b l [])) (hR : Hid (RS w v l)) (hF : Hid (FldAt w)) (hr : Hid (RowI w ad len f)) (hc : Hid (RowI w (some ⟨cb, 0, none⟩) len f)) (ok : Hid (ClsOk len f)) (hS : Hid (S = l.length)) (hB : B ≤ 64) (hn : n < 4294967296) (hb3 : 3 ≤ b) :
    Calls Tryd.prog 19 #[.agg #[.int .i64 W, .int .i64 (S : Nat), .int .i64 (B : Nat), .int .i64 T, .slice (some ⟨cb, 0, none⟩) len len], .agg #[.int .i64 W, .int .i64 (S : Nat), .int .i64 (B : Nat), .int .i64 T, .slice ad len cap], .slice (some ⟨b, 0, none⟩) (2 * S) c, v, .agg #[.int .i64 1, .int .i64 (n : Nat), .int .u64 (m : Nat), .int .u64 (a : Nat), .int .u64 (d : Nat)]] w (DoPost w b (refillP (capN len f) B l n)) := by
  have D0 := Lib.hid (dq_start (k := 1) (n := (n : Nat)) (m := m) (a := a) (d := d) (W := W) (T := T) (S := S) (B := B) (len := len) (cap := cap) (ad := ad) (cb := cb) hW.out hR.out hF.out hb3)
  have hO := Lib.hid hW.out.ok
  have few := hW.out.few
  have HB : Hid (Below w.heap.size w (((((w.alloc (.cells #[.int .i64 W, .int .i64 (S : Nat), .int .i64 (B : Nat), .int .i64 T, .slice (some ⟨cb, 0, none⟩) len len] 29)).alloc (.cells #[.int .i64 W, .int .i64 (S : Nat), .int .i64 (B : Nat), .int .i64 T, .slice ad len cap] 24)).alloc (.cells #[.int .i64 1, .int .i64 (n : Nat), .int .u64 (m : Nat), .int .u64 (a : Nat), .int .u64 (d : Nat)] 39)).alloc (.cells #[.int .u64 0, .int .u64 0] 37)).alloc (.cells #[.int .u64 0, .int .u64 0] 37))) := below5 _ _ _ _ _ _
  have RI0 := Lib.hid (hr.out.next HB.out)
  have RC0 := Lib.hid (hc.out.next HB.out)
  have P5 : (((((w.alloc (.cells #[.int .i64 W, .int .i64 (S : Nat), .int .i64 (B : Nat), .int .i64 T, .slice (some ⟨cb, 0, none⟩) len len] 29)).alloc (.cells #[.int .i64 W, .int .i64 (S : Nat), .int .i64 (B : Nat), .int .i64 T, .slice ad len cap] 24)).alloc (.cells #[.int .i64 1, .int .i64 (n : Nat), .int .u64 (m : Nat), .int .u64 (a : Nat), .int .u64 (d : Nat)] 39)).alloc (.cells #[.int .u64 0, .int .u64 0] 37)).alloc (.cells #[.int .u64 0, .int .u64 0] 37)).heap.size = w.heap.size + 5 := by simp
  have k0 := D0.out.ak.c0
  have k1 := D0.out.ak.c1
  have k2 := D0.out.ak.c2
  obtain ⟨e0, e1, e2, e3, e4⟩ := cfg_cells D0.out.cf
  have g0 : (0 : Int) ≤ (n : Int) := by omega
  have g1 : (n : Int) < 4294967296 := by omega
  have g2 : decide ((n : Int) < 4294967296) = true := by simpa using g1
  have OPC : Hid (∀ y, FldAt y → Calls Tryd.prog 22 #[.int .i64 (n : Nat)] y fun e y' => e = .returned (.agg #[.int .u64 ((1 + 256 * n : Nat) : Int), .int .u64 (0 : Nat)]) ∧ Below y.heap.size y y') := fun y h => by
    have := refillOp_any (n : Nat) y (by omega) (by omega) (Lib.hid h)
    rw [show askA 1 (n : Nat) = 1 + 256 * n from by unfold askA; rw [if_pos (by omega)]; simp, show askB (n : Nat) 0 = 0 from by unfold askB; rw [if_pos (by omega)]] at this
    exact this
  generalize hV : refillP (capN len f) B l n = V
  have APE : appP (capN len f) B l (1 + 256 * n, 0) = V := by
    rw [app1 (by omega) (by omega), show (1 + 256 * n) / 256 = n from by omega]; exact hV
  obtain ⟨l2, x1, x2⟩ := V
  have APC : Hid (∀ y, HW y b l [] → FldAt y → RowI y (some ⟨cb, 0, none⟩) len f → Calls Tryd.prog 21 #[.agg #[.int .i64 W, .int .i64 (S : Nat), .int .i64 (B : Nat), .int .i64 T, .slice (some ⟨cb, 0, none⟩) len len], .slice (some ⟨b, 0, none⟩) (2 * S) c, .agg #[.int .u64 ((1 + 256 * n : Nat) : Int), .int .u64 (0 : Nat)]] y fun e y' => e = .returned (.agg #[.int .u64 (x1 : Nat), .int .u64 (x2 : Nat)]) ∧ HW y' b l2 [] ∧ Only [b] y y') := fun y h1 h2 h3 => by
    have := apply_any W T S B (some ⟨cb, 0, none⟩) len len f (1 + 256 * n) 0 b (2 * S) c l [] y (Lib.hid h1) (by rw [hS.out]) hS.out (Lib.hid h2) (Lib.hid h3) ok hB (by omega) (by omega) hb3
    rw [APE] at this
    exact this
  clear APE
  go_enter Tryd.func19, Tryd.ntmps19
  go_wp2_with fail
  generalize ((((w.alloc (.cells #[.int .i64 W, .int .i64 (S : Nat), .int .i64 (B : Nat), .int .i64 T, .slice (some ⟨cb, 0, none⟩) len len] 29)).alloc (.cells #[.int .i64 W, .int .i64 (S : Nat), .int .i64 (B : Nat), .int .i64 T, .slice ad len cap] 24)).alloc (.cells #[.int .i64 1, .int .i64 (n : Nat), .int .u64 (m : Nat), .int .u64 (a : Nat), .int .u64 (d : Nat)] 39)).alloc (.cells #[.int .u64 0, .int .u64 0] 37)).alloc (.cells #[.int .u64 0, .int .u64 0] 37) = w5 at *
  generalize 1 + 256 * n = A at *
  have REF := rrefill_any W T S B ad len cap f v l n w5 (Lib.hid D0.out.rs) RI0 ok hO few hn
  rw [hV] at REF
  refine REF.mono ?_
  rintro e w6 ⟨v2, he, H5, hb⟩
  have he' : e = .returned (.tuple #[v2, .agg #[.int .u64 (x1 : Nat), .int .u64 (x2 : Nat)]]) := he
  subst he'
  have D6 := Lib.hid ((D0.out.next hb).row H5)
  have RC6 := Lib.hid (RC0.out.next hb)
  have P6 := Nat.le_trans (Nat.le_of_eq P5.symm) hb.size
  clear he H5 hb REF RI0 RC0 HB hr hc hR hW hF D0
  go_upto_region 5 with fail
  have X : Hid (OpBox (w6.alloc (.cells #[.int .u64 (x1 : Nat), .int .u64 (x2 : Nat)] 37)) w6.heap.size x1 x2) := heap_new w6 _
  have bx := box1 w6 (.cells #[.int .u64 (x1 : Nat), .int .u64 (x2 : Nat)] 37)
  have G := Lib.hid (D6.out.next bx)
  have RC := Lib.hid (RC6.out.next bx)
  clear bx D6 RC6 k0 k1 k2 e0 e1 e2 e3 e4
  generalize w6.alloc (.cells #[.int .u64 (x1 : Nat), .int .u64 (x2 : Nat)] 37) = w7 at *
  generalize w6.heap.size = Q at *
  have hlo := G.out.lo
  generalize hP : w.heap.size = P at *
  refine wp_region_noPanic ?_
  refine wp_region_held_drew (S := fun w' => HBox w' P W (S : Nat) (B : Nat) T (.slice (some ⟨cb, 0, none⟩) len len) ∧ AkBox w' (P + 2) 1 (n : Nat) m a d ∧ OpBox w' Q x1 x2) (by kernel_rfl) (⟨(G.out.next ((Below.refl _ _).drew)).hb, (G.out.next ((Below.refl _ _).drew)).ak, X.out.next ((Below.refl _ _).drew)⟩) (fun hHeld => ?_)
  have DR := (Below.refl w7.heap.size w7).drew
  have G0 := Lib.hid (G.out.next DR)
  have X0 := Lib.hid (X.out.next DR)
  have RC0 := Lib.hid (RC.out.next DR)
  clear DR
  generalize w7.drew = z0 at *
  refine wpAnyH_take (i := 0) (v := .agg #[.int .i64 W, .int .i64 (S : Nat), .int .i64 (B : Nat), .int .i64 T, .slice (some ⟨cb, 0, none⟩) len len]) rfl (by kernel_rfl) (by kernel_rfl) (by kernel_rfl) (fun _ _ _ h => h) (Or.inl ⟨by rfl, fun w hSw => by obtain ⟨s1, s2, s3⟩ := hSw; have a0 := s1.c0; have a1 := s1.c1; have a2 := s1.c2; have a3 := s1.c3; have a4 := s1.c4; have b1 := s2.c1; have b2 := s2.c2; have b3 := s3.c0; have b4 := s3.c1; go_simp⟩) (by assumption) ?_
  change wpAnyH _ _ _ _ _ _ _ (Act.put _ (some 43) _) _
  simp only [Act.put, List.setIfInBounds_toArray, List.set_cons_zero, List.set_cons_succ]
  refine wpAnyH_take (i := 1) (v := .slice (some ⟨b, 0, none⟩) (2 * S) c) rfl (by kernel_rfl) (by kernel_rfl) (by kernel_rfl) (fun _ _ _ h => h) (Or.inl ⟨by rfl, fun w hSw => by obtain ⟨s1, s2, s3⟩ := hSw; have a0 := s1.c0; have a1 := s1.c1; have a2 := s1.c2; have a3 := s1.c3; have a4 := s1.c4; have b1 := s2.c1; have b2 := s2.c2; have b3 := s3.c0; have b4 := s3.c1; go_simp⟩) (by assumption) ?_
  change wpAnyH _ _ _ _ _ _ _ (Act.put _ (some 44) _) _
  simp only [Act.put, List.setIfInBounds_toArray, List.set_cons_zero, List.set_cons_succ]
  refine wpAnyH_take (i := 2) (v := .pointer (some ⟨P + 2, 1, none⟩)) rfl (by kernel_rfl) (by kernel_rfl) (by kernel_rfl) (fun _ _ _ h => h) (Or.inl ⟨by rfl, fun w hSw => by obtain ⟨s1, s2, s3⟩ := hSw; have a0 := s1.c0; have a1 := s1.c1; have a2 := s1.c2; have a3 := s1.c3; have a4 := s1.c4; have b1 := s2.c1; have b2 := s2.c2; have b3 := s3.c0; have b4 := s3.c1; go_simp⟩) (by assumption) ?_
  change wpAnyH _ _ _ _ _ _ _ (Act.put _ (some 45) _) _
  simp only [Act.put, List.setIfInBounds_toArray, List.set_cons_zero, List.set_cons_succ]
  refine wpAnyH_take (i := 3) (v := .int .i64 (n : Nat)) rfl (by kernel_rfl) (by kernel_rfl) (by kernel_rfl) (fun _ _ _ h => h) (Or.inl ⟨by rfl, fun w hSw => by obtain ⟨s1, s2, s3⟩ := hSw; have a0 := s1.c0; have a1 := s1.c1; have a2 := s1.c2; have a3 := s1.c3; have a4 := s1.c4; have b1 := s2.c1; have b2 := s2.c2; have b3 := s3.c0; have b4 := s3.c1; go_simp⟩) (by assumption) ?_
  change wpAnyH _ _ _ _ _ _ _ (Act.put _ (some 46) _) _
  simp only [Act.put, List.setIfInBounds_toArray, List.set_cons_zero, List.set_cons_succ]
  refine wpAnyH_take (i := 6) (v := v2) rfl (by kernel_rfl) (by kernel_rfl) (by kernel_rfl) (fun _ _ _ h => h) (Or.inl ⟨by rfl, fun w hSw => by obtain ⟨s1, s2, s3⟩ := hSw; have a0 := s1.c0; have a1 := s1.c1; have a2 := s1.c2; have a3 := s1.c3; have a4 := s1.c4; have b1 := s2.c1; have b2 := s2.c2; have b3 := s3.c0; have b4 := s3.c1; go_simp⟩) (by assumption) ?_
  change wpAnyH _ _ _ _ _ _ _ (Act.put _ (some 49) _) _
  simp only [Act.put, List.setIfInBounds_toArray, List.set_cons_zero, List.set_cons_succ]
  refine wpAnyH_take (i := 7) (v := .agg #[.int .u64 (x1 : Nat), .int .u64 (x2 : Nat)]) rfl (by kernel_rfl) (by kernel_rfl) (by kernel_rfl) (fun _ _ _ h => h) (Or.inl ⟨by rfl, fun w hSw => by obtain ⟨s1, s2, s3⟩ := hSw; have a0 := s1.c0; have a1 := s1.c1; have a2 := s1.c2; have a3 := s1.c3; have a4 := s1.c4; have b1 := s2.c1; have b2 := s2.c2; have b3 := s3.c0; have b4 := s3.c1; go_simp⟩) (by assumption) ?_
  change wpAnyH _ _ _ _ _ _ _ (Act.put _ (some 50) _) _
  simp only [Act.put, List.setIfInBounds_toArray, List.set_cons_zero, List.set_cons_succ]
  refine wpAnyH_ready (rs := [4]) (by kernel_rfl) (by simp) ?_
  refine AllReadyH.cons rfl (fun K hK => ?_) (AllReadyH.nil)
  · refine step_enter (F := 22) (vals := #[.int .i64 (n : Nat)]) rfl (by kernel_rfl) ?_
    refine (OPC.out _ G0.out.fl).mono ?_
    rintro e y1 ⟨rfl, hb⟩
    have G1 := Lib.hid (G0.out.next hb)
    have X1 := Lib.hid (X0.out.next hb)
    have RC1 := Lib.hid (RC0.out.next hb)
    clear hb
    show K (Act.put _ (some 47) _) y1
    refine hK.out _ _ (⟨G1.out.hb, G1.out.ak, X1.out⟩) (fun hHeld1 => ?_)
    clear hK K
    simp only [Act.put, List.setIfInBounds_toArray, List.set_cons_zero, List.set_cons_succ]
    refine wpAnyH_ready (rs := [5]) (by kernel_rfl) (by simp) ?_
    refine AllReadyH.cons rfl (fun K hK => ?_) (AllReadyH.nil)
    · refine step_enter (F := 21) (vals := #[.agg #[.int .i64 W, .int .i64 (S : Nat), .int .i64 (B : Nat), .int .i64 T, .slice (some ⟨cb, 0, none⟩) len len], .slice (some ⟨b, 0, none⟩) (2 * S) c, .agg #[.int .u64 (A : Nat), .int .u64 (0 : Nat)]]) rfl (by kernel_rfl) ?_
      refine (APC.out _ G1.out.hw G1.out.fl RC1.out).mono ?_
      rintro e y2 ⟨rfl, hw, ho⟩
      have G2 := Lib.hid (G1.out.app hw ho)
      have X2 : Hid (OpBox y2 Q x1 x2) := ho.at X1.out (by simp; omega)
      clear hw ho
      show K (Act.put _ (some 48) _) y2
      refine hK.out _ _ (⟨G2.out.hb, G2.out.ak, X2.out⟩) (fun hHeld2 => ?_)
      clear hK K
      simp only [Act.put, List.setIfInBounds_toArray, List.set_cons_zero, List.set_cons_succ]
      refine wpAnyH_ready (rs := [8]) (by kernel_rfl) (by simp) ?_
      refine AllReadyH.cons rfl (fun K hK => ?_) AllReadyH.nil
      have z0 := G2.out.o1.z0
      have z1 := G2.out.o1.z1
      have f0 := frozen_of (j := 0) G2.out.o1
      have f1 := frozen_of (j := 1) G2.out.o1
      have G8 := Lib.hid (G2.out.set1 x1 x2)
      have X8 : Hid (OpBox _ Q x1 x2) := (only_op (w := y2) (n := P + 3) (.int .u64 (x1 : Nat)) (.int .u64 (x2 : Nat))).at X2.out (by simp; omega)
      go_simp
      refine hK.out _ _ (⟨G8.out.hb, G8.out.ak, X8.out⟩) (fun hHeldZ => ?_)
      clear hK K
      refine wpAnyH_take (i := 9) (v := v2) rfl (by kernel_rfl) (by kernel_rfl) (by kernel_rfl) (fun _ _ _ h => h) (Or.inl ⟨by rfl, fun w hSw => by obtain ⟨s1, s2, s3⟩ := hSw; have a0 := s1.c0; have a1 := s1.c1; have a2 := s1.c2; have a3 := s1.c3; have a4 := s1.c4; have b1 := s2.c1; have b2 := s2.c2; have b3 := s3.c0; have b4 := s3.c1; go_simp⟩) (by assumption) ?_
      change wpAnyH _ _ _ _ _ _ _ (Act.put _ (some 11) _) _
      simp only [Act.put, List.setIfInBounds_toArray, List.set_cons_zero, List.set_cons_succ]
      refine wpAnyH_ready (rs := [10]) (by kernel_rfl) (by simp) ?_
      refine AllReadyH.cons rfl (fun K hK => ?_) AllReadyH.nil
      have zz0 := G8.out.o2.z0
      have zz1 := G8.out.o2.z1
      have ff0 := frozen_of (j := 0) G8.out.o2
      have ff1 := frozen_of (j := 1) G8.out.o2
      have G9 := Lib.hid (G8.out.set2 x1 x2)
      have X9 : Hid (OpBox _ Q x1 x2) := (only_op (n := P + 4) (.int .u64 (x1 : Nat)) (.int .u64 (x2 : Nat))).at X8.out (by simp; omega)
      go_simp
      refine hK.out _ _ (⟨G9.out.hb, G9.out.ak, X9.out⟩) (fun hHeldY => ?_)
      clear hK K
      refine ⟨by kernel_rfl, ?_⟩
      refine NoPanic.normal ?_
      go_wp2_with fail
      have r0 := G9.out.o1.c0
      have r1 := G9.out.o1.c1
      have r2 := G9.out.o2.c0
      have r3 := G9.out.o2.c1
      exact bodyPost_ret (v := .tuple #[.agg #[.int .u64 (x1 : Nat), .int .u64 (x2 : Nat)], v2, .agg #[.int .u64 (x1 : Nat), .int .u64 (x2 : Nat)]]) (by simp [results, Tryd.results19, go_sem, r0, r1, r2, r3]) rfl ⟨v2, rfl, G9.out.hw, G9.out.rs, G9.out.on⟩


set_option maxRecDepth 20000 in
set_option maxHeartbeats 8000000 in
theorem do2_any (W T : Int) (S B : Nat) (ad : Option Addr) (len cap : Nat) (f : Nat → Int) (v : Value) (l : List Sb) (b cb c n m a d : Nat) (w : World) (hW : Hid (HW w b l [])) (hR : Hid (RS w v l)) (hF : Hid (FldAt w)) (hr : Hid (RowI w ad len f)) (hc : Hid (RowI w (some ⟨cb, 0, none⟩) len f)) (ok : Hid (ClsOk len f)) (hS : Hid (S = l.length)) (hB : B ≤ 64) (hn : n < 4294967296) (hm : m < 18446744073709551616) (hb3 : 3 ≤ b) :
    Calls Tryd.prog 19 #[.agg #[.int .i64 W, .int .i64 (S : Nat), .int .i64 (B : Nat), .int .i64 T, .slice (some ⟨cb, 0, none⟩) len len], .agg #[.int .i64 W, .int .i64 (S : Nat), .int .i64 (B : Nat), .int .i64 T, .slice ad len cap], .slice (some ⟨b, 0, none⟩) (2 * S) c, v, .agg #[.int .i64 2, .int .i64 (n : Nat), .int .u64 (m : Nat), .int .u64 (a : Nat), .int .u64 (d : Nat)]] w (DoPost w b (flushP (capN len f) l n m)) := by
  have D0 := Lib.hid (dq_start (k := 2) (n := (n : Nat)) (m := m) (a := a) (d := d) (W := W) (T := T) (S := S) (B := B) (len := len) (cap := cap) (ad := ad) (cb := cb) hW.out hR.out hF.out hb3)
  have hO := Lib.hid hW.out.ok
  have few := hW.out.few
  have HB : Hid (Below w.heap.size w (((((w.alloc (.cells #[.int .i64 W, .int .i64 (S : Nat), .int .i64 (B : Nat), .int .i64 T, .slice (some ⟨cb, 0, none⟩) len len] 29)).alloc (.cells #[.int .i64 W, .int .i64 (S : Nat), .int .i64 (B : Nat), .int .i64 T, .slice ad len cap] 24)).alloc (.cells #[.int .i64 2, .int .i64 (n : Nat), .int .u64 (m : Nat), .int .u64 (a : Nat), .int .u64 (d : Nat)] 39)).alloc (.cells #[.int .u64 0, .int .u64 0] 37)).alloc (.cells #[.int .u64 0, .int .u64 0] 37))) := below5 _ _ _ _ _ _
  have RI0 := Lib.hid (hr.out.next HB.out)
  have RC0 := Lib.hid (hc.out.next HB.out)
  have P5 : (((((w.alloc (.cells #[.int .i64 W, .int .i64 (S : Nat), .int .i64 (B : Nat), .int .i64 T, .slice (some ⟨cb, 0, none⟩) len len] 29)).alloc (.cells #[.int .i64 W, .int .i64 (S : Nat), .int .i64 (B : Nat), .int .i64 T, .slice ad len cap] 24)).alloc (.cells #[.int .i64 2, .int .i64 (n : Nat), .int .u64 (m : Nat), .int .u64 (a : Nat), .int .u64 (d : Nat)] 39)).alloc (.cells #[.int .u64 0, .int .u64 0] 37)).alloc (.cells #[.int .u64 0, .int .u64 0] 37)).heap.size = w.heap.size + 5 := by simp
  have k0 := D0.out.ak.c0
  have k1 := D0.out.ak.c1
  have k2 := D0.out.ak.c2
  obtain ⟨e0, e1, e2, e3, e4⟩ := cfg_cells D0.out.cf
  have g0 : (0 : Int) ≤ (n : Int) := by omega
  have g1 : (n : Int) < 4294967296 := by omega
  have g2 : decide ((n : Int) < 4294967296) = true := by simpa using g1
  have OPC : Hid (∀ y, FldAt y → Calls Tryd.prog 25 #[.int .i64 (n : Nat), .int .u64 (m : Nat)] y fun e y' => e = .returned (.agg #[.int .u64 ((2 + 256 * n : Nat) : Int), .int .u64 (m : Nat)]) ∧ Below y.heap.size y y') := fun y h => by
    have := flushOp_any (n : Nat) m y (by omega) (by omega) (Lib.hid h)
    rw [show askA 2 (n : Nat) = 2 + 256 * n from by unfold askA; rw [if_pos (by omega)]; simp, show askB (n : Nat) m = m from by unfold askB; rw [if_pos (by omega)]] at this
    exact this
  generalize hV : flushP (capN len f) l n m = V
  have APE : appP (capN len f) B l (2 + 256 * n, m) = V := by
    rw [app2 (by omega) (by omega), show (2 + 256 * n) / 256 = n from by omega]; exact hV
  obtain ⟨l2, x1, x2⟩ := V
  have APC : Hid (∀ y, HW y b l [] → FldAt y → RowI y (some ⟨cb, 0, none⟩) len f → Calls Tryd.prog 21 #[.agg #[.int .i64 W, .int .i64 (S : Nat), .int .i64 (B : Nat), .int .i64 T, .slice (some ⟨cb, 0, none⟩) len len], .slice (some ⟨b, 0, none⟩) (2 * S) c, .agg #[.int .u64 ((2 + 256 * n : Nat) : Int), .int .u64 (m : Nat)]] y fun e y' => e = .returned (.agg #[.int .u64 (x1 : Nat), .int .u64 (x2 : Nat)]) ∧ HW y' b l2 [] ∧ Only [b] y y') := fun y h1 h2 h3 => by
    have := apply_any W T S B (some ⟨cb, 0, none⟩) len len f (2 + 256 * n) m b (2 * S) c l [] y (Lib.hid h1) (by rw [hS.out]) hS.out (Lib.hid h2) (Lib.hid h3) ok hB (by omega) (by omega) hb3
    rw [APE] at this
    exact this
  clear APE
  go_enter Tryd.func19, Tryd.ntmps19
  go_wp2_with fail
  generalize ((((w.alloc (.cells #[.int .i64 W, .int .i64 (S : Nat), .int .i64 (B : Nat), .int .i64 T, .slice (some ⟨cb, 0, none⟩) len len] 29)).alloc (.cells #[.int .i64 W, .int .i64 (S : Nat), .int .i64 (B : Nat), .int .i64 T, .slice ad len cap] 24)).alloc (.cells #[.int .i64 2, .int .i64 (n : Nat), .int .u64 (m : Nat), .int .u64 (a : Nat), .int .u64 (d : Nat)] 39)).alloc (.cells #[.int .u64 0, .int .u64 0] 37)).alloc (.cells #[.int .u64 0, .int .u64 0] 37) = w5 at *
  generalize 2 + 256 * n = A at *
  have REF := rflush_any W T S B ad len cap f v l n m w5 (Lib.hid D0.out.rs) RI0 ok hO few hn hm
  rw [hV] at REF
  refine REF.mono ?_
  rintro e w6 ⟨v2, he, H5, hb⟩
  have he' : e = .returned (.tuple #[v2, .agg #[.int .u64 (x1 : Nat), .int .u64 (x2 : Nat)]]) := he
  subst he'
  have D6 := Lib.hid ((D0.out.next hb).row H5)
  have RC6 := Lib.hid (RC0.out.next hb)
  have P6 := Nat.le_trans (Nat.le_of_eq P5.symm) hb.size
  clear he H5 hb REF RI0 RC0 HB hr hc hR hW hF D0
  go_upto_region 9 with fail
  have X : Hid (OpBox (w6.alloc (.cells #[.int .u64 (x1 : Nat), .int .u64 (x2 : Nat)] 37)) w6.heap.size x1 x2) := heap_new w6 _
  have bx := box1 w6 (.cells #[.int .u64 (x1 : Nat), .int .u64 (x2 : Nat)] 37)
  have G := Lib.hid (D6.out.next bx)
  have RC := Lib.hid (RC6.out.next bx)
  clear bx D6 RC6 k0 k1 k2 e0 e1 e2 e3 e4
  generalize w6.alloc (.cells #[.int .u64 (x1 : Nat), .int .u64 (x2 : Nat)] 37) = w7 at *
  generalize w6.heap.size = Q at *
  have hlo := G.out.lo
  generalize hP : w.heap.size = P at *
  refine wp_region_noPanic ?_
  refine wp_region_held_drew (S := fun w' => HBox w' P W (S : Nat) (B : Nat) T (.slice (some ⟨cb, 0, none⟩) len len) ∧ AkBox w' (P + 2) 2 (n : Nat) m a d ∧ OpBox w' Q x1 x2) (by kernel_rfl) (⟨(G.out.next ((Below.refl _ _).drew)).hb, (G.out.next ((Below.refl _ _).drew)).ak, X.out.next ((Below.refl _ _).drew)⟩) (fun hHeld => ?_)
  have DR := (Below.refl w7.heap.size w7).drew
  have G0 := Lib.hid (G.out.next DR)
  have X0 := Lib.hid (X.out.next DR)
  have RC0 := Lib.hid (RC.out.next DR)
  clear DR
  generalize w7.drew = z0 at *
  refine wpAnyH_take (i := 0) (v := .agg #[.int .i64 W, .int .i64 (S : Nat), .int .i64 (B : Nat), .int .i64 T, .slice (some ⟨cb, 0, none⟩) len len]) rfl (by kernel_rfl) (by kernel_rfl) (by kernel_rfl) (fun _ _ _ h => h) (Or.inl ⟨by rfl, fun w hSw => by obtain ⟨s1, s2, s3⟩ := hSw; have a0 := s1.c0; have a1 := s1.c1; have a2 := s1.c2; have a3 := s1.c3; have a4 := s1.c4; have b1 := s2.c1; have b2 := s2.c2; have b3 := s3.c0; have b4 := s3.c1; go_simp⟩) (by assumption) ?_
  change wpAnyH _ _ _ _ _ _ _ (Act.put _ (some 76) _) _
  simp only [Act.put, List.setIfInBounds_toArray, List.set_cons_zero, List.set_cons_succ]
  refine wpAnyH_take (i := 1) (v := .slice (some ⟨b, 0, none⟩) (2 * S) c) rfl (by kernel_rfl) (by kernel_rfl) (by kernel_rfl) (fun _ _ _ h => h) (Or.inl ⟨by rfl, fun w hSw => by obtain ⟨s1, s2, s3⟩ := hSw; have a0 := s1.c0; have a1 := s1.c1; have a2 := s1.c2; have a3 := s1.c3; have a4 := s1.c4; have b1 := s2.c1; have b2 := s2.c2; have b3 := s3.c0; have b4 := s3.c1; go_simp⟩) (by assumption) ?_
  change wpAnyH _ _ _ _ _ _ _ (Act.put _ (some 77) _) _
  simp only [Act.put, List.setIfInBounds_toArray, List.set_cons_zero, List.set_cons_succ]
  refine wpAnyH_take (i := 2) (v := .pointer (some ⟨P + 2, 1, none⟩)) rfl (by kernel_rfl) (by kernel_rfl) (by kernel_rfl) (fun _ _ _ h => h) (Or.inl ⟨by rfl, fun w hSw => by obtain ⟨s1, s2, s3⟩ := hSw; have a0 := s1.c0; have a1 := s1.c1; have a2 := s1.c2; have a3 := s1.c3; have a4 := s1.c4; have b1 := s2.c1; have b2 := s2.c2; have b3 := s3.c0; have b4 := s3.c1; go_simp⟩) (by assumption) ?_
  change wpAnyH _ _ _ _ _ _ _ (Act.put _ (some 78) _) _
  simp only [Act.put, List.setIfInBounds_toArray, List.set_cons_zero, List.set_cons_succ]
  refine wpAnyH_take (i := 3) (v := .int .i64 (n : Nat)) rfl (by kernel_rfl) (by kernel_rfl) (by kernel_rfl) (fun _ _ _ h => h) (Or.inl ⟨by rfl, fun w hSw => by obtain ⟨s1, s2, s3⟩ := hSw; have a0 := s1.c0; have a1 := s1.c1; have a2 := s1.c2; have a3 := s1.c3; have a4 := s1.c4; have b1 := s2.c1; have b2 := s2.c2; have b3 := s3.c0; have b4 := s3.c1; go_simp⟩) (by assumption) ?_
  change wpAnyH _ _ _ _ _ _ _ (Act.put _ (some 79) _) _
  simp only [Act.put, List.setIfInBounds_toArray, List.set_cons_zero, List.set_cons_succ]
  refine wpAnyH_take (i := 4) (v := .pointer (some ⟨P + 2, 2, none⟩)) rfl (by kernel_rfl) (by kernel_rfl) (by kernel_rfl) (fun _ _ _ h => h) (Or.inl ⟨by rfl, fun w hSw => by obtain ⟨s1, s2, s3⟩ := hSw; have a0 := s1.c0; have a1 := s1.c1; have a2 := s1.c2; have a3 := s1.c3; have a4 := s1.c4; have b1 := s2.c1; have b2 := s2.c2; have b3 := s3.c0; have b4 := s3.c1; go_simp⟩) (by assumption) ?_
  change wpAnyH _ _ _ _ _ _ _ (Act.put _ (some 80) _) _
  simp only [Act.put, List.setIfInBounds_toArray, List.set_cons_zero, List.set_cons_succ]
  refine wpAnyH_take (i := 5) (v := .int .u64 (m : Nat)) rfl (by kernel_rfl) (by kernel_rfl) (by kernel_rfl) (fun _ _ _ h => h) (Or.inl ⟨by rfl, fun w hSw => by obtain ⟨s1, s2, s3⟩ := hSw; have a0 := s1.c0; have a1 := s1.c1; have a2 := s1.c2; have a3 := s1.c3; have a4 := s1.c4; have b1 := s2.c1; have b2 := s2.c2; have b3 := s3.c0; have b4 := s3.c1; go_simp⟩) (by assumption) ?_
  change wpAnyH _ _ _ _ _ _ _ (Act.put _ (some 81) _) _
  simp only [Act.put, List.setIfInBounds_toArray, List.set_cons_zero, List.set_cons_succ]
  refine wpAnyH_take (i := 8) (v := v2) rfl (by kernel_rfl) (by kernel_rfl) (by kernel_rfl) (fun _ _ _ h => h) (Or.inl ⟨by rfl, fun w hSw => by obtain ⟨s1, s2, s3⟩ := hSw; have a0 := s1.c0; have a1 := s1.c1; have a2 := s1.c2; have a3 := s1.c3; have a4 := s1.c4; have b1 := s2.c1; have b2 := s2.c2; have b3 := s3.c0; have b4 := s3.c1; go_simp⟩) (by assumption) ?_
  change wpAnyH _ _ _ _ _ _ _ (Act.put _ (some 84) _) _
  simp only [Act.put, List.setIfInBounds_toArray, List.set_cons_zero, List.set_cons_succ]
  refine wpAnyH_take (i := 9) (v := .agg #[.int .u64 (x1 : Nat), .int .u64 (x2 : Nat)]) rfl (by kernel_rfl) (by kernel_rfl) (by kernel_rfl) (fun _ _ _ h => h) (Or.inl ⟨by rfl, fun w hSw => by obtain ⟨s1, s2, s3⟩ := hSw; have a0 := s1.c0; have a1 := s1.c1; have a2 := s1.c2; have a3 := s1.c3; have a4 := s1.c4; have b1 := s2.c1; have b2 := s2.c2; have b3 := s3.c0; have b4 := s3.c1; go_simp⟩) (by assumption) ?_
  change wpAnyH _ _ _ _ _ _ _ (Act.put _ (some 85) _) _
  simp only [Act.put, List.setIfInBounds_toArray, List.set_cons_zero, List.set_cons_succ]
  refine wpAnyH_ready (rs := [6]) (by kernel_rfl) (by simp) ?_
  refine AllReadyH.cons rfl (fun K hK => ?_) (AllReadyH.nil)
  · refine step_enter (F := 25) (vals := #[.int .i64 (n : Nat), .int .u64 (m : Nat)]) rfl (by kernel_rfl) ?_
    refine (OPC.out _ G0.out.fl).mono ?_
    rintro e y1 ⟨rfl, hb⟩
    have G1 := Lib.hid (G0.out.next hb)
    have X1 := Lib.hid (X0.out.next hb)
    have RC1 := Lib.hid (RC0.out.next hb)
    clear hb
    show K (Act.put _ (some 82) _) y1
    refine hK.out _ _ (⟨G1.out.hb, G1.out.ak, X1.out⟩) (fun hHeld1 => ?_)
    clear hK K
    simp only [Act.put, List.setIfInBounds_toArray, List.set_cons_zero, List.set_cons_succ]
    refine wpAnyH_ready (rs := [7]) (by kernel_rfl) (by simp) ?_
    refine AllReadyH.cons rfl (fun K hK => ?_) (AllReadyH.nil)
    · refine step_enter (F := 21) (vals := #[.agg #[.int .i64 W, .int .i64 (S : Nat), .int .i64 (B : Nat), .int .i64 T, .slice (some ⟨cb, 0, none⟩) len len], .slice (some ⟨b, 0, none⟩) (2 * S) c, .agg #[.int .u64 (A : Nat), .int .u64 (m : Nat)]]) rfl (by kernel_rfl) ?_
      refine (APC.out _ G1.out.hw G1.out.fl RC1.out).mono ?_
      rintro e y2 ⟨rfl, hw, ho⟩
      have G2 := Lib.hid (G1.out.app hw ho)
      have X2 : Hid (OpBox y2 Q x1 x2) := ho.at X1.out (by simp; omega)
      clear hw ho
      show K (Act.put _ (some 83) _) y2
      refine hK.out _ _ (⟨G2.out.hb, G2.out.ak, X2.out⟩) (fun hHeld2 => ?_)
      clear hK K
      simp only [Act.put, List.setIfInBounds_toArray, List.set_cons_zero, List.set_cons_succ]
      refine wpAnyH_ready (rs := [10]) (by kernel_rfl) (by simp) ?_
      refine AllReadyH.cons rfl (fun K hK => ?_) AllReadyH.nil
      have z0 := G2.out.o1.z0
      have z1 := G2.out.o1.z1
      have f0 := frozen_of (j := 0) G2.out.o1
      have f1 := frozen_of (j := 1) G2.out.o1
      have G8 := Lib.hid (G2.out.set1 x1 x2)
      have X8 : Hid (OpBox _ Q x1 x2) := (only_op (w := y2) (n := P + 3) (.int .u64 (x1 : Nat)) (.int .u64 (x2 : Nat))).at X2.out (by simp; omega)
      go_simp
      refine hK.out _ _ (⟨G8.out.hb, G8.out.ak, X8.out⟩) (fun hHeldZ => ?_)
      clear hK K
      refine wpAnyH_take (i := 11) (v := v2) rfl (by kernel_rfl) (by kernel_rfl) (by kernel_rfl) (fun _ _ _ h => h) (Or.inl ⟨by rfl, fun w hSw => by obtain ⟨s1, s2, s3⟩ := hSw; have a0 := s1.c0; have a1 := s1.c1; have a2 := s1.c2; have a3 := s1.c3; have a4 := s1.c4; have b1 := s2.c1; have b2 := s2.c2; have b3 := s3.c0; have b4 := s3.c1; go_simp⟩) (by assumption) ?_
      change wpAnyH _ _ _ _ _ _ _ (Act.put _ (some 11) _) _
      simp only [Act.put, List.setIfInBounds_toArray, List.set_cons_zero, List.set_cons_succ]
      refine wpAnyH_ready (rs := [12]) (by kernel_rfl) (by simp) ?_
      refine AllReadyH.cons rfl (fun K hK => ?_) AllReadyH.nil
      have zz0 := G8.out.o2.z0
      have zz1 := G8.out.o2.z1
      have ff0 := frozen_of (j := 0) G8.out.o2
      have ff1 := frozen_of (j := 1) G8.out.o2
      have G9 := Lib.hid (G8.out.set2 x1 x2)
      have X9 : Hid (OpBox _ Q x1 x2) := (only_op (n := P + 4) (.int .u64 (x1 : Nat)) (.int .u64 (x2 : Nat))).at X8.out (by simp; omega)
      go_simp
      refine hK.out _ _ (⟨G9.out.hb, G9.out.ak, X9.out⟩) (fun hHeldY => ?_)
      clear hK K
      refine ⟨by kernel_rfl, ?_⟩
      refine NoPanic.normal ?_
      go_wp2_with fail
      have r0 := G9.out.o1.c0
      have r1 := G9.out.o1.c1
      have r2 := G9.out.o2.c0
      have r3 := G9.out.o2.c1
      exact bodyPost_ret (v := .tuple #[.agg #[.int .u64 (x1 : Nat), .int .u64 (x2 : Nat)], v2, .agg #[.int .u64 (x1 : Nat), .int .u64 (x2 : Nat)]]) (by simp [results, Tryd.results19, go_sem, r0, r1, r2, r3]) rfl ⟨v2, rfl, G9.out.hw, G9.out.rs, G9.out.on⟩


set_option maxRecDepth 20000 in
set_option maxHeartbeats 8000000 in
theorem do3_any (W T : Int) (S B : Nat) (ad : Option Addr) (len cap : Nat) (f : Nat → Int) (v : Value) (l : List Sb) (b cb c n m a d : Nat) (w : World) (hW : Hid (HW w b l [])) (hR : Hid (RS w v l)) (hF : Hid (FldAt w)) (hr : Hid (RowI w ad len f)) (hc : Hid (RowI w (some ⟨cb, 0, none⟩) len f)) (ok : Hid (ClsOk len f)) (hS : Hid (S = l.length)) (hB : B ≤ 64) (hn : n < 4294967296) (hb3 : 3 ≤ b) :
    Calls Tryd.prog 19 #[.agg #[.int .i64 W, .int .i64 (S : Nat), .int .i64 (B : Nat), .int .i64 T, .slice (some ⟨cb, 0, none⟩) len len], .agg #[.int .i64 W, .int .i64 (S : Nat), .int .i64 (B : Nat), .int .i64 T, .slice ad len cap], .slice (some ⟨b, 0, none⟩) (2 * S) c, v, .agg #[.int .i64 3, .int .i64 (n : Nat), .int .u64 (m : Nat), .int .u64 (a : Nat), .int .u64 (d : Nat)]] w (DoPost w b (takeP l n)) := by
  have D0 := Lib.hid (dq_start (k := 3) (n := (n : Nat)) (m := m) (a := a) (d := d) (W := W) (T := T) (S := S) (B := B) (len := len) (cap := cap) (ad := ad) (cb := cb) hW.out hR.out hF.out hb3)
  have hO := Lib.hid hW.out.ok
  have few := hW.out.few
  have HB : Hid (Below w.heap.size w (((((w.alloc (.cells #[.int .i64 W, .int .i64 (S : Nat), .int .i64 (B : Nat), .int .i64 T, .slice (some ⟨cb, 0, none⟩) len len] 29)).alloc (.cells #[.int .i64 W, .int .i64 (S : Nat), .int .i64 (B : Nat), .int .i64 T, .slice ad len cap] 24)).alloc (.cells #[.int .i64 3, .int .i64 (n : Nat), .int .u64 (m : Nat), .int .u64 (a : Nat), .int .u64 (d : Nat)] 39)).alloc (.cells #[.int .u64 0, .int .u64 0] 37)).alloc (.cells #[.int .u64 0, .int .u64 0] 37))) := below5 _ _ _ _ _ _
  have RI0 := Lib.hid (hr.out.next HB.out)
  have RC0 := Lib.hid (hc.out.next HB.out)
  have P5 : (((((w.alloc (.cells #[.int .i64 W, .int .i64 (S : Nat), .int .i64 (B : Nat), .int .i64 T, .slice (some ⟨cb, 0, none⟩) len len] 29)).alloc (.cells #[.int .i64 W, .int .i64 (S : Nat), .int .i64 (B : Nat), .int .i64 T, .slice ad len cap] 24)).alloc (.cells #[.int .i64 3, .int .i64 (n : Nat), .int .u64 (m : Nat), .int .u64 (a : Nat), .int .u64 (d : Nat)] 39)).alloc (.cells #[.int .u64 0, .int .u64 0] 37)).alloc (.cells #[.int .u64 0, .int .u64 0] 37)).heap.size = w.heap.size + 5 := by simp
  have k0 := D0.out.ak.c0
  have k1 := D0.out.ak.c1
  have k2 := D0.out.ak.c2
  obtain ⟨e0, e1, e2, e3, e4⟩ := cfg_cells D0.out.cf
  have g0 : (0 : Int) ≤ (n : Int) := by omega
  have g1 : (n : Int) < 4294967296 := by omega
  have g2 : decide ((n : Int) < 4294967296) = true := by simpa using g1
  have OPC : Hid (∀ y, FldAt y → Calls Tryd.prog 26 #[.int .i64 (n : Nat)] y fun e y' => e = .returned (.agg #[.int .u64 ((3 + 256 * n : Nat) : Int), .int .u64 (0 : Nat)]) ∧ Below y.heap.size y y') := fun y h => by
    have := takeOp_any (n : Nat) y (by omega) (by omega) (Lib.hid h)
    rw [show askA 3 (n : Nat) = 3 + 256 * n from by unfold askA; rw [if_pos (by omega)]; simp, show askB (n : Nat) 0 = 0 from by unfold askB; rw [if_pos (by omega)]] at this
    exact this
  generalize hV : takeP l n = V
  have APE : appP (capN len f) B l (3 + 256 * n, 0) = V := by
    rw [app3 (by omega) (by omega), show (3 + 256 * n) / 256 = n from by omega]; exact hV
  obtain ⟨l2, x1, x2⟩ := V
  have APC : Hid (∀ y, HW y b l [] → FldAt y → RowI y (some ⟨cb, 0, none⟩) len f → Calls Tryd.prog 21 #[.agg #[.int .i64 W, .int .i64 (S : Nat), .int .i64 (B : Nat), .int .i64 T, .slice (some ⟨cb, 0, none⟩) len len], .slice (some ⟨b, 0, none⟩) (2 * S) c, .agg #[.int .u64 ((3 + 256 * n : Nat) : Int), .int .u64 (0 : Nat)]] y fun e y' => e = .returned (.agg #[.int .u64 (x1 : Nat), .int .u64 (x2 : Nat)]) ∧ HW y' b l2 [] ∧ Only [b] y y') := fun y h1 h2 h3 => by
    have := apply_any W T S B (some ⟨cb, 0, none⟩) len len f (3 + 256 * n) 0 b (2 * S) c l [] y (Lib.hid h1) (by rw [hS.out]) hS.out (Lib.hid h2) (Lib.hid h3) ok hB (by omega) (by omega) hb3
    rw [APE] at this
    exact this
  clear APE
  go_enter Tryd.func19, Tryd.ntmps19
  go_wp2_with fail
  generalize ((((w.alloc (.cells #[.int .i64 W, .int .i64 (S : Nat), .int .i64 (B : Nat), .int .i64 T, .slice (some ⟨cb, 0, none⟩) len len] 29)).alloc (.cells #[.int .i64 W, .int .i64 (S : Nat), .int .i64 (B : Nat), .int .i64 T, .slice ad len cap] 24)).alloc (.cells #[.int .i64 3, .int .i64 (n : Nat), .int .u64 (m : Nat), .int .u64 (a : Nat), .int .u64 (d : Nat)] 39)).alloc (.cells #[.int .u64 0, .int .u64 0] 37)).alloc (.cells #[.int .u64 0, .int .u64 0] 37) = w5 at *
  generalize 3 + 256 * n = A at *
  have REF := rtake_any v l n w5 (Lib.hid D0.out.rs) few hn
  rw [hV] at REF
  refine REF.mono ?_
  rintro e w6 ⟨v2, he, H5, hb⟩
  have he' : e = .returned (.tuple #[v2, .agg #[.int .u64 (x1 : Nat), .int .u64 (x2 : Nat)]]) := he
  subst he'
  have D6 := Lib.hid ((D0.out.next hb).row H5)
  have RC6 := Lib.hid (RC0.out.next hb)
  have P6 := Nat.le_trans (Nat.le_of_eq P5.symm) hb.size
  clear he H5 hb REF RI0 RC0 HB hr hc hR hW hF D0
  go_upto_region 12 with fail
  have X : Hid (OpBox (w6.alloc (.cells #[.int .u64 (x1 : Nat), .int .u64 (x2 : Nat)] 37)) w6.heap.size x1 x2) := heap_new w6 _
  have bx := box1 w6 (.cells #[.int .u64 (x1 : Nat), .int .u64 (x2 : Nat)] 37)
  have G := Lib.hid (D6.out.next bx)
  have RC := Lib.hid (RC6.out.next bx)
  clear bx D6 RC6 k0 k1 k2 e0 e1 e2 e3 e4
  generalize w6.alloc (.cells #[.int .u64 (x1 : Nat), .int .u64 (x2 : Nat)] 37) = w7 at *
  generalize w6.heap.size = Q at *
  have hlo := G.out.lo
  generalize hP : w.heap.size = P at *
  refine wp_region_noPanic ?_
  refine wp_region_held_drew (S := fun w' => HBox w' P W (S : Nat) (B : Nat) T (.slice (some ⟨cb, 0, none⟩) len len) ∧ AkBox w' (P + 2) 3 (n : Nat) m a d ∧ OpBox w' Q x1 x2) (by kernel_rfl) (⟨(G.out.next ((Below.refl _ _).drew)).hb, (G.out.next ((Below.refl _ _).drew)).ak, X.out.next ((Below.refl _ _).drew)⟩) (fun hHeld => ?_)
  have DR := (Below.refl w7.heap.size w7).drew
  have G0 := Lib.hid (G.out.next DR)
  have X0 := Lib.hid (X.out.next DR)
  have RC0 := Lib.hid (RC.out.next DR)
  clear DR
  generalize w7.drew = z0 at *
  refine wpAnyH_take (i := 0) (v := .agg #[.int .i64 W, .int .i64 (S : Nat), .int .i64 (B : Nat), .int .i64 T, .slice (some ⟨cb, 0, none⟩) len len]) rfl (by kernel_rfl) (by kernel_rfl) (by kernel_rfl) (fun _ _ _ h => h) (Or.inl ⟨by rfl, fun w hSw => by obtain ⟨s1, s2, s3⟩ := hSw; have a0 := s1.c0; have a1 := s1.c1; have a2 := s1.c2; have a3 := s1.c3; have a4 := s1.c4; have b1 := s2.c1; have b2 := s2.c2; have b3 := s3.c0; have b4 := s3.c1; go_simp⟩) (by assumption) ?_
  change wpAnyH _ _ _ _ _ _ _ (Act.put _ (some 100) _) _
  simp only [Act.put, List.setIfInBounds_toArray, List.set_cons_zero, List.set_cons_succ]
  refine wpAnyH_take (i := 1) (v := .slice (some ⟨b, 0, none⟩) (2 * S) c) rfl (by kernel_rfl) (by kernel_rfl) (by kernel_rfl) (fun _ _ _ h => h) (Or.inl ⟨by rfl, fun w hSw => by obtain ⟨s1, s2, s3⟩ := hSw; have a0 := s1.c0; have a1 := s1.c1; have a2 := s1.c2; have a3 := s1.c3; have a4 := s1.c4; have b1 := s2.c1; have b2 := s2.c2; have b3 := s3.c0; have b4 := s3.c1; go_simp⟩) (by assumption) ?_
  change wpAnyH _ _ _ _ _ _ _ (Act.put _ (some 101) _) _
  simp only [Act.put, List.setIfInBounds_toArray, List.set_cons_zero, List.set_cons_succ]
  refine wpAnyH_take (i := 2) (v := .pointer (some ⟨P + 2, 1, none⟩)) rfl (by kernel_rfl) (by kernel_rfl) (by kernel_rfl) (fun _ _ _ h => h) (Or.inl ⟨by rfl, fun w hSw => by obtain ⟨s1, s2, s3⟩ := hSw; have a0 := s1.c0; have a1 := s1.c1; have a2 := s1.c2; have a3 := s1.c3; have a4 := s1.c4; have b1 := s2.c1; have b2 := s2.c2; have b3 := s3.c0; have b4 := s3.c1; go_simp⟩) (by assumption) ?_
  change wpAnyH _ _ _ _ _ _ _ (Act.put _ (some 102) _) _
  simp only [Act.put, List.setIfInBounds_toArray, List.set_cons_zero, List.set_cons_succ]
  refine wpAnyH_take (i := 3) (v := .int .i64 (n : Nat)) rfl (by kernel_rfl) (by kernel_rfl) (by kernel_rfl) (fun _ _ _ h => h) (Or.inl ⟨by rfl, fun w hSw => by obtain ⟨s1, s2, s3⟩ := hSw; have a0 := s1.c0; have a1 := s1.c1; have a2 := s1.c2; have a3 := s1.c3; have a4 := s1.c4; have b1 := s2.c1; have b2 := s2.c2; have b3 := s3.c0; have b4 := s3.c1; go_simp⟩) (by assumption) ?_
  change wpAnyH _ _ _ _ _ _ _ (Act.put _ (some 103) _) _
  simp only [Act.put, List.setIfInBounds_toArray, List.set_cons_zero, List.set_cons_succ]
  refine wpAnyH_take (i := 6) (v := v2) rfl (by kernel_rfl) (by kernel_rfl) (by kernel_rfl) (fun _ _ _ h => h) (Or.inl ⟨by rfl, fun w hSw => by obtain ⟨s1, s2, s3⟩ := hSw; have a0 := s1.c0; have a1 := s1.c1; have a2 := s1.c2; have a3 := s1.c3; have a4 := s1.c4; have b1 := s2.c1; have b2 := s2.c2; have b3 := s3.c0; have b4 := s3.c1; go_simp⟩) (by assumption) ?_
  change wpAnyH _ _ _ _ _ _ _ (Act.put _ (some 106) _) _
  simp only [Act.put, List.setIfInBounds_toArray, List.set_cons_zero, List.set_cons_succ]
  refine wpAnyH_take (i := 7) (v := .agg #[.int .u64 (x1 : Nat), .int .u64 (x2 : Nat)]) rfl (by kernel_rfl) (by kernel_rfl) (by kernel_rfl) (fun _ _ _ h => h) (Or.inl ⟨by rfl, fun w hSw => by obtain ⟨s1, s2, s3⟩ := hSw; have a0 := s1.c0; have a1 := s1.c1; have a2 := s1.c2; have a3 := s1.c3; have a4 := s1.c4; have b1 := s2.c1; have b2 := s2.c2; have b3 := s3.c0; have b4 := s3.c1; go_simp⟩) (by assumption) ?_
  change wpAnyH _ _ _ _ _ _ _ (Act.put _ (some 107) _) _
  simp only [Act.put, List.setIfInBounds_toArray, List.set_cons_zero, List.set_cons_succ]
  refine wpAnyH_ready (rs := [4]) (by kernel_rfl) (by simp) ?_
  refine AllReadyH.cons rfl (fun K hK => ?_) (AllReadyH.nil)
  · refine step_enter (F := 26) (vals := #[.int .i64 (n : Nat)]) rfl (by kernel_rfl) ?_
    refine (OPC.out _ G0.out.fl).mono ?_
    rintro e y1 ⟨rfl, hb⟩
    have G1 := Lib.hid (G0.out.next hb)
    have X1 := Lib.hid (X0.out.next hb)
    have RC1 := Lib.hid (RC0.out.next hb)
    clear hb
    show K (Act.put _ (some 104) _) y1
    refine hK.out _ _ (⟨G1.out.hb, G1.out.ak, X1.out⟩) (fun hHeld1 => ?_)
    clear hK K
    simp only [Act.put, List.setIfInBounds_toArray, List.set_cons_zero, List.set_cons_succ]
    refine wpAnyH_ready (rs := [5]) (by kernel_rfl) (by simp) ?_
    refine AllReadyH.cons rfl (fun K hK => ?_) (AllReadyH.nil)
    · refine step_enter (F := 21) (vals := #[.agg #[.int .i64 W, .int .i64 (S : Nat), .int .i64 (B : Nat), .int .i64 T, .slice (some ⟨cb, 0, none⟩) len len], .slice (some ⟨b, 0, none⟩) (2 * S) c, .agg #[.int .u64 (A : Nat), .int .u64 (0 : Nat)]]) rfl (by kernel_rfl) ?_
      refine (APC.out _ G1.out.hw G1.out.fl RC1.out).mono ?_
      rintro e y2 ⟨rfl, hw, ho⟩
      have G2 := Lib.hid (G1.out.app hw ho)
      have X2 : Hid (OpBox y2 Q x1 x2) := ho.at X1.out (by simp; omega)
      clear hw ho
      show K (Act.put _ (some 105) _) y2
      refine hK.out _ _ (⟨G2.out.hb, G2.out.ak, X2.out⟩) (fun hHeld2 => ?_)
      clear hK K
      simp only [Act.put, List.setIfInBounds_toArray, List.set_cons_zero, List.set_cons_succ]
      refine wpAnyH_ready (rs := [8]) (by kernel_rfl) (by simp) ?_
      refine AllReadyH.cons rfl (fun K hK => ?_) AllReadyH.nil
      have z0 := G2.out.o1.z0
      have z1 := G2.out.o1.z1
      have f0 := frozen_of (j := 0) G2.out.o1
      have f1 := frozen_of (j := 1) G2.out.o1
      have G8 := Lib.hid (G2.out.set1 x1 x2)
      have X8 : Hid (OpBox _ Q x1 x2) := (only_op (w := y2) (n := P + 3) (.int .u64 (x1 : Nat)) (.int .u64 (x2 : Nat))).at X2.out (by simp; omega)
      go_simp
      refine hK.out _ _ (⟨G8.out.hb, G8.out.ak, X8.out⟩) (fun hHeldZ => ?_)
      clear hK K
      refine wpAnyH_take (i := 9) (v := v2) rfl (by kernel_rfl) (by kernel_rfl) (by kernel_rfl) (fun _ _ _ h => h) (Or.inl ⟨by rfl, fun w hSw => by obtain ⟨s1, s2, s3⟩ := hSw; have a0 := s1.c0; have a1 := s1.c1; have a2 := s1.c2; have a3 := s1.c3; have a4 := s1.c4; have b1 := s2.c1; have b2 := s2.c2; have b3 := s3.c0; have b4 := s3.c1; go_simp⟩) (by assumption) ?_
      change wpAnyH _ _ _ _ _ _ _ (Act.put _ (some 11) _) _
      simp only [Act.put, List.setIfInBounds_toArray, List.set_cons_zero, List.set_cons_succ]
      refine wpAnyH_ready (rs := [10]) (by kernel_rfl) (by simp) ?_
      refine AllReadyH.cons rfl (fun K hK => ?_) AllReadyH.nil
      have zz0 := G8.out.o2.z0
      have zz1 := G8.out.o2.z1
      have ff0 := frozen_of (j := 0) G8.out.o2
      have ff1 := frozen_of (j := 1) G8.out.o2
      have G9 := Lib.hid (G8.out.set2 x1 x2)
      have X9 : Hid (OpBox _ Q x1 x2) := (only_op (n := P + 4) (.int .u64 (x1 : Nat)) (.int .u64 (x2 : Nat))).at X8.out (by simp; omega)
      go_simp
      refine hK.out _ _ (⟨G9.out.hb, G9.out.ak, X9.out⟩) (fun hHeldY => ?_)
      clear hK K
      refine ⟨by kernel_rfl, ?_⟩
      refine NoPanic.normal ?_
      go_wp2_with fail
      have r0 := G9.out.o1.c0
      have r1 := G9.out.o1.c1
      have r2 := G9.out.o2.c0
      have r3 := G9.out.o2.c1
      exact bodyPost_ret (v := .tuple #[.agg #[.int .u64 (x1 : Nat), .int .u64 (x2 : Nat)], v2, .agg #[.int .u64 (x1 : Nat), .int .u64 (x2 : Nat)]]) (by simp [results, Tryd.results19, go_sem, r0, r1, r2, r3]) rfl ⟨v2, rfl, G9.out.hw, G9.out.rs, G9.out.on⟩


set_option maxRecDepth 20000 in
set_option maxHeartbeats 8000000 in
theorem do4_any (W T : Int) (S B : Nat) (ad : Option Addr) (len cap : Nat) (f : Nat → Int) (v : Value) (l : List Sb) (b cb c n m a d : Nat) (w : World) (hW : Hid (HW w b l [])) (hR : Hid (RS w v l)) (hF : Hid (FldAt w)) (hr : Hid (RowI w ad len f)) (hc : Hid (RowI w (some ⟨cb, 0, none⟩) len f)) (ok : Hid (ClsOk len f)) (hin : Hid (InR l)) (hS : Hid (S = l.length)) (hB : B ≤ 64) (hn : n < 4294967296) (hb3 : 3 ≤ b) :
    Calls Tryd.prog 19 #[.agg #[.int .i64 W, .int .i64 (S : Nat), .int .i64 (B : Nat), .int .i64 T, .slice (some ⟨cb, 0, none⟩) len len], .agg #[.int .i64 W, .int .i64 (S : Nat), .int .i64 (B : Nat), .int .i64 T, .slice ad len cap], .slice (some ⟨b, 0, none⟩) (2 * S) c, v, .agg #[.int .i64 4, .int .i64 (n : Nat), .int .u64 (m : Nat), .int .u64 (a : Nat), .int .u64 (d : Nat)]] w (DoPost w b (giveP l n)) := by
  have D0 := Lib.hid (dq_start (k := 4) (n := (n : Nat)) (m := m) (a := a) (d := d) (W := W) (T := T) (S := S) (B := B) (len := len) (cap := cap) (ad := ad) (cb := cb) hW.out hR.out hF.out hb3)
  have hO := Lib.hid hW.out.ok
  have few := hW.out.few
  have HB : Hid (Below w.heap.size w (((((w.alloc (.cells #[.int .i64 W, .int .i64 (S : Nat), .int .i64 (B : Nat), .int .i64 T, .slice (some ⟨cb, 0, none⟩) len len] 29)).alloc (.cells #[.int .i64 W, .int .i64 (S : Nat), .int .i64 (B : Nat), .int .i64 T, .slice ad len cap] 24)).alloc (.cells #[.int .i64 4, .int .i64 (n : Nat), .int .u64 (m : Nat), .int .u64 (a : Nat), .int .u64 (d : Nat)] 39)).alloc (.cells #[.int .u64 0, .int .u64 0] 37)).alloc (.cells #[.int .u64 0, .int .u64 0] 37))) := below5 _ _ _ _ _ _
  have RI0 := Lib.hid (hr.out.next HB.out)
  have RC0 := Lib.hid (hc.out.next HB.out)
  have P5 : (((((w.alloc (.cells #[.int .i64 W, .int .i64 (S : Nat), .int .i64 (B : Nat), .int .i64 T, .slice (some ⟨cb, 0, none⟩) len len] 29)).alloc (.cells #[.int .i64 W, .int .i64 (S : Nat), .int .i64 (B : Nat), .int .i64 T, .slice ad len cap] 24)).alloc (.cells #[.int .i64 4, .int .i64 (n : Nat), .int .u64 (m : Nat), .int .u64 (a : Nat), .int .u64 (d : Nat)] 39)).alloc (.cells #[.int .u64 0, .int .u64 0] 37)).alloc (.cells #[.int .u64 0, .int .u64 0] 37)).heap.size = w.heap.size + 5 := by simp
  have k0 := D0.out.ak.c0
  have k1 := D0.out.ak.c1
  have k2 := D0.out.ak.c2
  obtain ⟨e0, e1, e2, e3, e4⟩ := cfg_cells D0.out.cf
  have g0 : (0 : Int) ≤ (n : Int) := by omega
  have g1 : (n : Int) < 4294967296 := by omega
  have g2 : decide ((n : Int) < 4294967296) = true := by simpa using g1
  have OPC : Hid (∀ y, FldAt y → Calls Tryd.prog 23 #[.int .i64 (n : Nat)] y fun e y' => e = .returned (.agg #[.int .u64 ((4 + 256 * n : Nat) : Int), .int .u64 (0 : Nat)]) ∧ Below y.heap.size y y') := fun y h => by
    have := giveOp_any (n : Nat) y (by omega) (by omega) (Lib.hid h)
    rw [show askA 4 (n : Nat) = 4 + 256 * n from by unfold askA; rw [if_pos (by omega)]; simp, show askB (n : Nat) 0 = 0 from by unfold askB; rw [if_pos (by omega)]] at this
    exact this
  generalize hV : giveP l n = V
  have APE : appP (capN len f) B l (4 + 256 * n, 0) = V := by
    rw [app4 (by omega) (by omega), show (4 + 256 * n) / 256 = n from by omega]; exact hV
  obtain ⟨l2, x1, x2⟩ := V
  have APC : Hid (∀ y, HW y b l [] → FldAt y → RowI y (some ⟨cb, 0, none⟩) len f → Calls Tryd.prog 21 #[.agg #[.int .i64 W, .int .i64 (S : Nat), .int .i64 (B : Nat), .int .i64 T, .slice (some ⟨cb, 0, none⟩) len len], .slice (some ⟨b, 0, none⟩) (2 * S) c, .agg #[.int .u64 ((4 + 256 * n : Nat) : Int), .int .u64 (0 : Nat)]] y fun e y' => e = .returned (.agg #[.int .u64 (x1 : Nat), .int .u64 (x2 : Nat)]) ∧ HW y' b l2 [] ∧ Only [b] y y') := fun y h1 h2 h3 => by
    have := apply_any W T S B (some ⟨cb, 0, none⟩) len len f (4 + 256 * n) 0 b (2 * S) c l [] y (Lib.hid h1) (by rw [hS.out]) hS.out (Lib.hid h2) (Lib.hid h3) ok hB (by omega) (by omega) hb3
    rw [APE] at this
    exact this
  clear APE
  go_enter Tryd.func19, Tryd.ntmps19
  go_wp2_with fail
  generalize ((((w.alloc (.cells #[.int .i64 W, .int .i64 (S : Nat), .int .i64 (B : Nat), .int .i64 T, .slice (some ⟨cb, 0, none⟩) len len] 29)).alloc (.cells #[.int .i64 W, .int .i64 (S : Nat), .int .i64 (B : Nat), .int .i64 T, .slice ad len cap] 24)).alloc (.cells #[.int .i64 4, .int .i64 (n : Nat), .int .u64 (m : Nat), .int .u64 (a : Nat), .int .u64 (d : Nat)] 39)).alloc (.cells #[.int .u64 0, .int .u64 0] 37)).alloc (.cells #[.int .u64 0, .int .u64 0] 37) = w5 at *
  generalize 4 + 256 * n = A at *
  have REF := rgive_any v l n w5 (Lib.hid D0.out.rs) few hn (Lib.hid (fun s h hk => hin.out n s h hk))
  rw [hV] at REF
  refine REF.mono ?_
  rintro e w6 ⟨v2, he, H5, hb⟩
  have he' : e = .returned (.tuple #[v2, .agg #[.int .u64 (x1 : Nat), .int .u64 (x2 : Nat)]]) := he
  subst he'
  have D6 := Lib.hid ((D0.out.next hb).row H5)
  have RC6 := Lib.hid (RC0.out.next hb)
  have P6 := Nat.le_trans (Nat.le_of_eq P5.symm) hb.size
  clear he H5 hb REF RI0 RC0 HB hr hc hR hW hF D0
  go_upto_region 15 with fail
  have X : Hid (OpBox (w6.alloc (.cells #[.int .u64 (x1 : Nat), .int .u64 (x2 : Nat)] 37)) w6.heap.size x1 x2) := heap_new w6 _
  have bx := box1 w6 (.cells #[.int .u64 (x1 : Nat), .int .u64 (x2 : Nat)] 37)
  have G := Lib.hid (D6.out.next bx)
  have RC := Lib.hid (RC6.out.next bx)
  clear bx D6 RC6 k0 k1 k2 e0 e1 e2 e3 e4
  generalize w6.alloc (.cells #[.int .u64 (x1 : Nat), .int .u64 (x2 : Nat)] 37) = w7 at *
  generalize w6.heap.size = Q at *
  have hlo := G.out.lo
  generalize hP : w.heap.size = P at *
  refine wp_region_noPanic ?_
  refine wp_region_held_drew (S := fun w' => HBox w' P W (S : Nat) (B : Nat) T (.slice (some ⟨cb, 0, none⟩) len len) ∧ AkBox w' (P + 2) 4 (n : Nat) m a d ∧ OpBox w' Q x1 x2) (by kernel_rfl) (⟨(G.out.next ((Below.refl _ _).drew)).hb, (G.out.next ((Below.refl _ _).drew)).ak, X.out.next ((Below.refl _ _).drew)⟩) (fun hHeld => ?_)
  have DR := (Below.refl w7.heap.size w7).drew
  have G0 := Lib.hid (G.out.next DR)
  have X0 := Lib.hid (X.out.next DR)
  have RC0 := Lib.hid (RC.out.next DR)
  clear DR
  generalize w7.drew = z0 at *
  refine wpAnyH_take (i := 0) (v := .agg #[.int .i64 W, .int .i64 (S : Nat), .int .i64 (B : Nat), .int .i64 T, .slice (some ⟨cb, 0, none⟩) len len]) rfl (by kernel_rfl) (by kernel_rfl) (by kernel_rfl) (fun _ _ _ h => h) (Or.inl ⟨by rfl, fun w hSw => by obtain ⟨s1, s2, s3⟩ := hSw; have a0 := s1.c0; have a1 := s1.c1; have a2 := s1.c2; have a3 := s1.c3; have a4 := s1.c4; have b1 := s2.c1; have b2 := s2.c2; have b3 := s3.c0; have b4 := s3.c1; go_simp⟩) (by assumption) ?_
  change wpAnyH _ _ _ _ _ _ _ (Act.put _ (some 122) _) _
  simp only [Act.put, List.setIfInBounds_toArray, List.set_cons_zero, List.set_cons_succ]
  refine wpAnyH_take (i := 1) (v := .slice (some ⟨b, 0, none⟩) (2 * S) c) rfl (by kernel_rfl) (by kernel_rfl) (by kernel_rfl) (fun _ _ _ h => h) (Or.inl ⟨by rfl, fun w hSw => by obtain ⟨s1, s2, s3⟩ := hSw; have a0 := s1.c0; have a1 := s1.c1; have a2 := s1.c2; have a3 := s1.c3; have a4 := s1.c4; have b1 := s2.c1; have b2 := s2.c2; have b3 := s3.c0; have b4 := s3.c1; go_simp⟩) (by assumption) ?_
  change wpAnyH _ _ _ _ _ _ _ (Act.put _ (some 123) _) _
  simp only [Act.put, List.setIfInBounds_toArray, List.set_cons_zero, List.set_cons_succ]
  refine wpAnyH_take (i := 2) (v := .pointer (some ⟨P + 2, 1, none⟩)) rfl (by kernel_rfl) (by kernel_rfl) (by kernel_rfl) (fun _ _ _ h => h) (Or.inl ⟨by rfl, fun w hSw => by obtain ⟨s1, s2, s3⟩ := hSw; have a0 := s1.c0; have a1 := s1.c1; have a2 := s1.c2; have a3 := s1.c3; have a4 := s1.c4; have b1 := s2.c1; have b2 := s2.c2; have b3 := s3.c0; have b4 := s3.c1; go_simp⟩) (by assumption) ?_
  change wpAnyH _ _ _ _ _ _ _ (Act.put _ (some 124) _) _
  simp only [Act.put, List.setIfInBounds_toArray, List.set_cons_zero, List.set_cons_succ]
  refine wpAnyH_take (i := 3) (v := .int .i64 (n : Nat)) rfl (by kernel_rfl) (by kernel_rfl) (by kernel_rfl) (fun _ _ _ h => h) (Or.inl ⟨by rfl, fun w hSw => by obtain ⟨s1, s2, s3⟩ := hSw; have a0 := s1.c0; have a1 := s1.c1; have a2 := s1.c2; have a3 := s1.c3; have a4 := s1.c4; have b1 := s2.c1; have b2 := s2.c2; have b3 := s3.c0; have b4 := s3.c1; go_simp⟩) (by assumption) ?_
  change wpAnyH _ _ _ _ _ _ _ (Act.put _ (some 125) _) _
  simp only [Act.put, List.setIfInBounds_toArray, List.set_cons_zero, List.set_cons_succ]
  refine wpAnyH_take (i := 6) (v := v2) rfl (by kernel_rfl) (by kernel_rfl) (by kernel_rfl) (fun _ _ _ h => h) (Or.inl ⟨by rfl, fun w hSw => by obtain ⟨s1, s2, s3⟩ := hSw; have a0 := s1.c0; have a1 := s1.c1; have a2 := s1.c2; have a3 := s1.c3; have a4 := s1.c4; have b1 := s2.c1; have b2 := s2.c2; have b3 := s3.c0; have b4 := s3.c1; go_simp⟩) (by assumption) ?_
  change wpAnyH _ _ _ _ _ _ _ (Act.put _ (some 128) _) _
  simp only [Act.put, List.setIfInBounds_toArray, List.set_cons_zero, List.set_cons_succ]
  refine wpAnyH_take (i := 7) (v := .agg #[.int .u64 (x1 : Nat), .int .u64 (x2 : Nat)]) rfl (by kernel_rfl) (by kernel_rfl) (by kernel_rfl) (fun _ _ _ h => h) (Or.inl ⟨by rfl, fun w hSw => by obtain ⟨s1, s2, s3⟩ := hSw; have a0 := s1.c0; have a1 := s1.c1; have a2 := s1.c2; have a3 := s1.c3; have a4 := s1.c4; have b1 := s2.c1; have b2 := s2.c2; have b3 := s3.c0; have b4 := s3.c1; go_simp⟩) (by assumption) ?_
  change wpAnyH _ _ _ _ _ _ _ (Act.put _ (some 129) _) _
  simp only [Act.put, List.setIfInBounds_toArray, List.set_cons_zero, List.set_cons_succ]
  refine wpAnyH_ready (rs := [4]) (by kernel_rfl) (by simp) ?_
  refine AllReadyH.cons rfl (fun K hK => ?_) (AllReadyH.nil)
  · refine step_enter (F := 23) (vals := #[.int .i64 (n : Nat)]) rfl (by kernel_rfl) ?_
    refine (OPC.out _ G0.out.fl).mono ?_
    rintro e y1 ⟨rfl, hb⟩
    have G1 := Lib.hid (G0.out.next hb)
    have X1 := Lib.hid (X0.out.next hb)
    have RC1 := Lib.hid (RC0.out.next hb)
    clear hb
    show K (Act.put _ (some 126) _) y1
    refine hK.out _ _ (⟨G1.out.hb, G1.out.ak, X1.out⟩) (fun hHeld1 => ?_)
    clear hK K
    simp only [Act.put, List.setIfInBounds_toArray, List.set_cons_zero, List.set_cons_succ]
    refine wpAnyH_ready (rs := [5]) (by kernel_rfl) (by simp) ?_
    refine AllReadyH.cons rfl (fun K hK => ?_) (AllReadyH.nil)
    · refine step_enter (F := 21) (vals := #[.agg #[.int .i64 W, .int .i64 (S : Nat), .int .i64 (B : Nat), .int .i64 T, .slice (some ⟨cb, 0, none⟩) len len], .slice (some ⟨b, 0, none⟩) (2 * S) c, .agg #[.int .u64 (A : Nat), .int .u64 (0 : Nat)]]) rfl (by kernel_rfl) ?_
      refine (APC.out _ G1.out.hw G1.out.fl RC1.out).mono ?_
      rintro e y2 ⟨rfl, hw, ho⟩
      have G2 := Lib.hid (G1.out.app hw ho)
      have X2 : Hid (OpBox y2 Q x1 x2) := ho.at X1.out (by simp; omega)
      clear hw ho
      show K (Act.put _ (some 127) _) y2
      refine hK.out _ _ (⟨G2.out.hb, G2.out.ak, X2.out⟩) (fun hHeld2 => ?_)
      clear hK K
      simp only [Act.put, List.setIfInBounds_toArray, List.set_cons_zero, List.set_cons_succ]
      refine wpAnyH_ready (rs := [8]) (by kernel_rfl) (by simp) ?_
      refine AllReadyH.cons rfl (fun K hK => ?_) AllReadyH.nil
      have z0 := G2.out.o1.z0
      have z1 := G2.out.o1.z1
      have f0 := frozen_of (j := 0) G2.out.o1
      have f1 := frozen_of (j := 1) G2.out.o1
      have G8 := Lib.hid (G2.out.set1 x1 x2)
      have X8 : Hid (OpBox _ Q x1 x2) := (only_op (w := y2) (n := P + 3) (.int .u64 (x1 : Nat)) (.int .u64 (x2 : Nat))).at X2.out (by simp; omega)
      go_simp
      refine hK.out _ _ (⟨G8.out.hb, G8.out.ak, X8.out⟩) (fun hHeldZ => ?_)
      clear hK K
      refine wpAnyH_take (i := 9) (v := v2) rfl (by kernel_rfl) (by kernel_rfl) (by kernel_rfl) (fun _ _ _ h => h) (Or.inl ⟨by rfl, fun w hSw => by obtain ⟨s1, s2, s3⟩ := hSw; have a0 := s1.c0; have a1 := s1.c1; have a2 := s1.c2; have a3 := s1.c3; have a4 := s1.c4; have b1 := s2.c1; have b2 := s2.c2; have b3 := s3.c0; have b4 := s3.c1; go_simp⟩) (by assumption) ?_
      change wpAnyH _ _ _ _ _ _ _ (Act.put _ (some 11) _) _
      simp only [Act.put, List.setIfInBounds_toArray, List.set_cons_zero, List.set_cons_succ]
      refine wpAnyH_ready (rs := [10]) (by kernel_rfl) (by simp) ?_
      refine AllReadyH.cons rfl (fun K hK => ?_) AllReadyH.nil
      have zz0 := G8.out.o2.z0
      have zz1 := G8.out.o2.z1
      have ff0 := frozen_of (j := 0) G8.out.o2
      have ff1 := frozen_of (j := 1) G8.out.o2
      have G9 := Lib.hid (G8.out.set2 x1 x2)
      have X9 : Hid (OpBox _ Q x1 x2) := (only_op (n := P + 4) (.int .u64 (x1 : Nat)) (.int .u64 (x2 : Nat))).at X8.out (by simp; omega)
      go_simp
      refine hK.out _ _ (⟨G9.out.hb, G9.out.ak, X9.out⟩) (fun hHeldY => ?_)
      clear hK K
      refine ⟨by kernel_rfl, ?_⟩
      refine NoPanic.normal ?_
      go_wp2_with fail
      have r0 := G9.out.o1.c0
      have r1 := G9.out.o1.c1
      have r2 := G9.out.o2.c0
      have r3 := G9.out.o2.c1
      exact bodyPost_ret (v := .tuple #[.agg #[.int .u64 (x1 : Nat), .int .u64 (x2 : Nat)], v2, .agg #[.int .u64 (x1 : Nat), .int .u64 (x2 : Nat)]]) (by simp [results, Tryd.results19, go_sem, r0, r1, r2, r3]) rfl ⟨v2, rfl, G9.out.hw, G9.out.rs, G9.out.on⟩


end Go.Proofs.YtkogeeaoppkhkaaDoor
