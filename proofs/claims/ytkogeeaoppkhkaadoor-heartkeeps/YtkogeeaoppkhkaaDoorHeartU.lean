/-
  The document's Flush over rows of superblocks. (Printed by mkheartu.py.)
-/
import Derived.Test.YtkogeeaoppkhkaaDoorHeartF
import Derived.Deep.RegionHeld
namespace Go.Proofs.YtkogeeaoppkhkaaDoor
open Go.RowKit Go.Sort Go.Shelf

def Cel (P : Nat) (w : World) (rb i n m : Nat) : Prop := rb < P ∧ P ≤ w.heap.size ∧ w.cell? ⟨rb, i * 3 + 1, none⟩ = some (.int .i64 (n : Int)) ∧ w.cell? ⟨rb, i * 3 + 2, none⟩ = some (.int .u64 (m : Int))
theorem Cel.next {P : Nat} {w w' : World} {rb i n m : Nat} (h : Cel P w rb i n m) (hb : Below w.heap.size w w') : Cel P w' rb i n m := by
  obtain ⟨h1, h2, h3, h4⟩ := h
  have hl : rb < w.heap.size := by omega
  exact ⟨h1, Nat.le_trans h2 hb.size, (hb.cell (p := ⟨rb, i * 3 + 1, none⟩) hl).trans h3, (hb.cell (p := ⟨rb, i * 3 + 2, none⟩) hl).trans h4⟩
theorem Cel.op {P N : Nat} {w : World} {rb i n m : Nat} (h : Cel P w rb i n m) (hN : P ≤ N) (u v : Value) : Cel P ((w.setCell ⟨N, 0, none⟩ u).setCell ⟨N, 1, none⟩ v) rb i n m := by
  obtain ⟨h1, h2, h3, h4⟩ := h
  have hb : Below P w ((w.setCell ⟨N, 0, none⟩ u).setCell ⟨N, 1, none⟩ v) := ((Below.refl P w).setCell (p := ⟨N, 0, none⟩) hN u).setCell (p := ⟨N, 1, none⟩) hN v
  exact ⟨h1, Nat.le_trans h2 hb.size, (hb.cell (p := ⟨rb, i * 3 + 1, none⟩) h1).trans h3, (hb.cell (p := ⟨rb, i * 3 + 2, none⟩) h1).trans h4⟩
def badF (D A m j : Nat) : Bool := D.testBit j && (!A.testBit j || m.testBit j)
theorem bad_no {D A m j : Nat} (hD : D < 18446744073709551616) (hA : A < 18446744073709551616) (h : badF D A m j = true) : flushB A m D ≠ true := by
  rw [Ne, flushB_iff]
  rintro ⟨_, h1, h2⟩
  unfold badF at h
  simp only [Bool.and_eq_true, Bool.or_eq_true, Bool.not_eq_true'] at h
  have e1 := congrArg (fun x => x.testBit j) h1
  have e2 := congrArg (fun x => x.testBit j) h2
  simp only [Ma.testBit_andNotN hD hA, Nat.testBit_and, Nat.zero_testBit] at e1 e2
  obtain ⟨a, b | b⟩ := h
  · simp [a, b] at e1
  · simp [a, b] at e2
theorem bad_yes {D A m : Nat} (hD : D < 18446744073709551616) (hA : A < 18446744073709551616) (h0 : D ≠ 0) (h : ∀ j, j < 64 → badF D A m j = false) : flushB A m D = true := by
  rw [flushB_iff]
  refine ⟨h0, Ma.word_ext (Ma.andNotN_lt _ hD) (by decide) fun j hj => ?_, Ma.word_ext (Nat.lt_of_le_of_lt Nat.and_le_left hD) (by decide) fun j hj => ?_⟩ <;>
  · have := h j hj
    unfold badF at this
    first
      | rw [Ma.testBit_andNotN hD hA, Nat.zero_testBit]; revert this; cases D.testBit j <;> cases A.testBit j <;> cases m.testBit j <;> simp
      | rw [Nat.testBit_and, Nat.zero_testBit]; revert this; cases D.testBit j <;> cases A.testBit j <;> cases m.testBit j <;> simp
set_option maxRecDepth 20000 in
set_option maxHeartbeats 8000000 in
theorem rflush_any (W T : Int) (S B : Nat) (ad : Option Addr) (len cap : Nat) (f : Nat → Int) (v : Value) (l : List Sb) (i D : Nat) (w : World) (hR : Hid (RS w v l)) (hr : Hid (RowI w ad len f)) (ok : Hid (ClsOk len f)) (hO : Hid (OkL l)) (few : l.length ≤ 64) (hi : i < 4294967296) (hD : D < 18446744073709551616) :
    Calls Tryd.prog 47 #[.agg #[.int .i64 W, .int .i64 (S : Nat), .int .i64 (B : Nat), .int .i64 T, .slice ad len cap], v, .int .i64 (i : Nat), .int .u64 (D : Nat)] w (RPost w (flushP (capN len f) l i D)) := by
  obtain ⟨q1, q2, q3, q4⟩ := two_fresh w (.cells #[.int .i64 W, .int .i64 (S : Nat), .int .i64 (B : Nat), .int .i64 T, .slice ad len cap] 24) (.cells #[.int .u64 0, .int .u64 0] 37)
  have C1 : Hid (Cfg5 _ w.heap.size W (S : Nat) (B : Nat) T (.slice ad len cap)) := q1
  have M1 : Hid (OpBox _ (w.heap.size + 1) 0 0) := q2
  have B1 := Lib.hid q3
  have R1 := Lib.hid (hR.out.next q3)
  have I1 := Lib.hid (hr.out.next q3)
  have hPN : Hid (w.heap.size ≤ w.heap.size + 1) := by show _ ≤ _; omega
  clear q1 q2 q4
  obtain ⟨c0, c1, c2, c3, c4⟩ := cfg_cells C1.out
  have f0 := frozen_of (j := 0) M1.out
  have f1 := frozen_of (j := 1) M1.out
  have z0 := M1.out.z0
  have z1 := M1.out.z1
  have gI : decide ((i : Int) < 0) = false := by simp
  have gI2 : ¬ (i : Int) < 0 := by omega
  by_cases hil : i < l.length
  · have hs := Lib.hid (at_of hil)
    have hOk := hO.out.at hs.out
    have hs2 := hs.out
    have ANO := Lib.hid (fun h => flush_no (cap := capN len f) (i := i) (back := D) hs2 h)
    have AYE := Lib.hid (fun h => flush_yes (cap := capN len f) (i := i) (back := D) hs2 h)
    obtain ⟨rb, rc, rfl, hrb, u0, u1, u2⟩ := hR.out.cells hs.out
    have k0 := (q3.cell (p := ⟨rb, i * 3, none⟩) hrb).trans u0
    have k1 := (q3.cell (p := ⟨rb, i * 3 + 1, none⟩) hrb).trans u1
    have k2 := (q3.cell (p := ⟨rb, i * 3 + 2, none⟩) hrb).trans u2
    have hsz := q3.size
    clear q3 hs2 u0 u1 u2
    have g1 : ¬ (l.length : Int) ≤ (i : Int) := by omega
    have g2 : decide ((l.length : Int) ≤ (i : Int)) = false := by simpa using g1
    have l3 : (i : Int) < (l.length : Int) := by omega
    generalize l.getD i Sb.none = s at *
    obtain ⟨k, n, m⟩ := s
    simp only at hOk ANO AYE k0 k1 k2
    obtain ⟨hk3, hn32, hm64⟩ := hOk
    by_cases hk : k = 1
    · by_cases hD0 : D = 0
      · subst hD0
        have EV := Lib.hid (ANO.out (by rw [flushB_iff]; rintro ⟨_, h, _⟩; exact h rfl))
        generalize flushP (capN len f) l i 0 = V at *
        subst hk
        have k0' : ((w.alloc (.cells #[.int .i64 W, .int .i64 (S : Nat), .int .i64 (B : Nat), .int .i64 T, .slice ad len cap] 24)).alloc (.cells #[.int .u64 0, .int .u64 0] 37)).cell? ⟨rb, i * 3, none⟩ = some (.int .i64 1) := k0
        go_enter Tryd.func47, Tryd.ntmps47
        go_wp2_with fail
        exact bodyPost_ret (v := .tuple #[.slice (some ⟨rb, 0, none⟩) l.length rc, .agg #[.int .u64 0, .int .u64 0]]) (by simp [results, Tryd.results47, go_sem, z0, z1]) rfl ⟨_, by rw [EV.out]; rfl, by rw [EV.out]; exact R1.out, B1.out⟩
      · subst hk
        have k0' : ((w.alloc (.cells #[.int .i64 W, .int .i64 (S : Nat), .int .i64 (B : Nat), .int .i64 T, .slice ad len cap] 24)).alloc (.cells #[.int .u64 0, .int .u64 0] 37)).cell? ⟨rb, i * 3, none⟩ = some (.int .i64 1) := k0
        have gD : ¬ (D : Int) = 0 := by omega
        have hcle := capN_le ok.out n
        have CI := capN_int ok.out n
        have CC : Hid (∀ y, RowI y ad len f → Calls Tryd.prog 28 #[.agg #[.int .i64 W, .int .i64 (S : Nat), .int .i64 (B : Nat), .int .i64 T, .slice ad len cap], .int .i64 (n : Nat)] y fun e y' => e = .returned (.int .i64 ((capN len f n : Nat) : Int)) ∧ Below y.heap.size y y') := fun y h => by
          have := rcap_any W (S : Nat) (B : Nat) T ad len cap f (n : Nat) y (Lib.hid h) ok
          rw [CI] at this
          exact this
        clear CI
        have HAS : Hid (∀ (x t : Nat) (b : Bool) (y : World), x < 18446744073709551616 → t < 64 → x.testBit t = b → Calls Tryd.prog 74 #[.int .u64 (x : Nat), .int .i64 (t : Nat)] y fun e y' => e = .returned (.bool b) ∧ y = y') := fun x t b y h1 h2 h3 => rhas_is x t b y h1 h2 h3
        generalize flushP (capN len f) l i D = V at *
        generalize capN len f n = K at *
        have hA64 : Ma.lowN K < 18446744073709551616 := Ma.lowN_lt hcle
        have CE : Hid (Cel w.heap.size ((w.alloc (.cells #[.int .i64 W, .int .i64 (S : Nat), .int .i64 (B : Nat), .int .i64 T, .slice ad len cap] 24)).alloc (.cells #[.int .u64 0, .int .u64 0] 37)) rb i n m) := ⟨hrb, hsz, k1, k2⟩
        go_enter Tryd.func47, Tryd.ntmps47
        go_upto_region 3 with fail
        generalize (w.alloc (.cells #[.int .i64 W, .int .i64 (S : Nat), .int .i64 (B : Nat), .int .i64 T, .slice ad len cap] 24)).alloc (.cells #[.int .u64 0, .int .u64 0] 37) = w1 at *
        generalize w.heap.size + 1 = N at *
        have j0 := cell_regrown c0
        have j1 := cell_regrown c1
        have j2 := cell_regrown c2
        have j3 := cell_regrown c3
        have j4 := cell_regrown c4
        have j5 := cell_regrown k1
        have a1 := fun d os => Calls.regrown_of (CC.out (grow (redrawn w1 d) os) (I1.out.next (below_regrown w1 d os)))
        have a2 := fun d os => Calls.regrown_of (rlowH K hcle (grow (redrawn w1 d) os))
        refine wp_region_quiet_below (by kernel_rfl) (by kernel_rfl) ?_
        repeat (go_big_quiet_step (first | exact a1 _ _ | exact a2 _ _))
        refine wpQuiet_nil ?_
        intro _ hw'
        obtain ⟨⟨dq, osq⟩, hw''⟩ := hw'
        subst hw''
        have bg := below_regrown w1 dq osq
        have RK := Lib.hid (R1.out.next bg)
        have MK := Lib.hid (M1.out.next bg)
        have BK : Hid (Below w.heap.size w _) := B1.out.trans (bg.mono B1.out.size)
        have CE := Lib.hid (CE.out.next bg)
        have k1' := (bg.cell (p := ⟨rb, i * 3 + 1, none⟩) (Nat.lt_of_lt_of_le hrb hsz)).trans k1
        have k2' := (bg.cell (p := ⟨rb, i * 3 + 2, none⟩) (Nat.lt_of_lt_of_le hrb hsz)).trans k2
        clear a1 a2 j0 j1 j2 j3 j4 j5 bg f0 f1 z0 z1 k0 k0' k1 k2 c0 c1 c2 c3 c4 C1 M1 B1 R1 I1 CC
        generalize Sort.grow (redrawn w1 dq) osq = w7 at *
        have f0 := frozen_of (j := 0) MK.out
        have f1 := frozen_of (j := 1) MK.out
        have z0 := MK.out.z0
        have z1 := MK.out.z1
        generalize Ma.lowN K = A at *
        go_wp2_with fail
        go_loop [11] (fun u11 => ∃ j : Nat, j ≤ 64 ∧ u11 = .int .i64 (j : Nat) ∧ Hid (∀ t, t < j → badF D A m t = false)) (fun u11 => 64 - (intOf u11).toNat)
        case atStart => exact ⟨0, by omega, rfl, Lib.hid (fun t ht => absurd ht (by omega))⟩
        case round =>
          obtain ⟨j, hj, rfl, hno⟩ := hrel
          by_cases hj1 : j < 64
          · have g3 : (j : Int) < 64 := by omega
            have wk : IntKind.i64.wrap ((j : Int) + 1) = (j : Int) + 1 := by rw [IntKind.wrap_i64]; omega
            have NXT : Hid (badF D A m j = false → ∀ t, t < j + 1 → badF D A m t = false) := fun h t ht => by
              rcases Nat.lt_succ_iff_lt_or_eq.1 ht with h1 | rfl
              · exact hno.out t h1
              · exact h
            cases hd : D.testBit j with
            | false =>
              go_wp2_with fail
              refine (HAS.out D j false _ (by omega) (by omega) hd).mono ?_
              rintro e y ⟨rfl, rfl⟩
              go_wp2_with fail
              go_round
              case rel => exact ⟨j + 1, by omega, by push_cast; rfl, Lib.hid (NXT.out (by unfold badF; rw [hd]; rfl))⟩
              case measure => simp [intOf]; omega
            | true =>
              cases ha : A.testBit j with
              | false =>
                have EV := Lib.hid (ANO.out (fun h => bad_no (j := j) hD hA64 (by unfold badF; rw [hd, ha]; rfl) h.2))
                go_wp2_with fail
                refine (HAS.out D j true _ (by omega) (by omega) hd).mono ?_
                rintro e y ⟨rfl, rfl⟩
                go_wp2_with fail
                refine (HAS.out A j false _ (by omega) (by omega) ha).mono ?_
                rintro e y ⟨rfl, rfl⟩
                have Rz := MK.out.zero
                have BZ := below_set (j := 1) (v := .int .u64 0) (below_set (j := 0) (v := .int .u64 0) BK.out hPN.out) hPN.out
                go_wp2_with fail
                exact bodyPost_ret (v := .tuple #[.slice (some ⟨rb, 0, none⟩) l.length rc, .agg #[.int .u64 0, .int .u64 0]]) (by simp [results, Tryd.results47, go_sem, Rz.z0, Rz.z1]) rfl ⟨_, by rw [EV.out]; rfl, by rw [EV.out]; exact RK.out.op MK.out (only_op _ _), BZ⟩
              | true =>
                cases hb : m.testBit j with
                | true =>
                  have EV := Lib.hid (ANO.out (fun h => bad_no (j := j) hD hA64 (by unfold badF; rw [hd, ha, hb]; rfl) h.2))
                  go_wp2_with fail
                  refine (HAS.out D j true _ (by omega) (by omega) hd).mono ?_
                  rintro e y ⟨rfl, rfl⟩
                  go_wp2_with fail
                  refine (HAS.out A j true _ (by omega) (by omega) ha).mono ?_
                  rintro e y ⟨rfl, rfl⟩
                  go_wp2_with fail
                  refine (HAS.out m j true _ (by omega) (by omega) hb).mono ?_
                  rintro e y ⟨rfl, rfl⟩
                  have Rz := MK.out.zero
                  have BZ := below_set (j := 1) (v := .int .u64 0) (below_set (j := 0) (v := .int .u64 0) BK.out hPN.out) hPN.out
                  go_wp2_with fail
                  exact bodyPost_ret (v := .tuple #[.slice (some ⟨rb, 0, none⟩) l.length rc, .agg #[.int .u64 0, .int .u64 0]]) (by simp [results, Tryd.results47, go_sem, Rz.z0, Rz.z1]) rfl ⟨_, by rw [EV.out]; rfl, by rw [EV.out]; exact RK.out.op MK.out (only_op _ _), BZ⟩
                | false =>
                  go_wp2_with fail
                  refine (HAS.out D j true _ (by omega) (by omega) hd).mono ?_
                  rintro e y ⟨rfl, rfl⟩
                  go_wp2_with fail
                  refine (HAS.out A j true _ (by omega) (by omega) ha).mono ?_
                  rintro e y ⟨rfl, rfl⟩
                  go_wp2_with fail
                  refine (HAS.out m j false _ (by omega) (by omega) hb).mono ?_
                  rintro e y ⟨rfl, rfl⟩
                  go_wp2_with fail
                  go_round
                  case rel => exact ⟨j + 1, by omega, by push_cast; rfl, Lib.hid (NXT.out (by unfold badF; rw [hd, ha, hb]; rfl))⟩
                  case measure => simp [intOf]; omega
          · obtain rfl : j = 64 := by omega
            have hY := bad_yes hD hA64 hD0 hno.out
            have hor : m ||| D = m + D := or_add hm64 hD (by rw [Nat.and_comm]; exact (flushB_iff.1 hY).2.2)
            have hlt : m + D < 18446744073709551616 := by rw [← hor]; exact Ma.or_lt hm64 hD
            have EV0 := Lib.hid (AYE.out (by first | exact ⟨rfl, hY⟩ | exact ⟨trivial, hY⟩))
            rw [hor] at EV0
            have ws : IntKind.u64.wrap ((m : Int) + (D : Int)) = (m : Int) + (D : Int) := by rw [IntKind.wrap_u64]; omega
            clear hor hno ANO AYE
            by_cases hfull : m + D = A
            · have EV : Hid (V = (l.set i Sb.none, (1, 0))) := by rw [if_pos hfull] at EV0; exact EV0
              clear EV0
              have g7 : ((m : Int) + (D : Int) = (A : Int)) := by omega
              have WI := Lib.hid (rwith_any (.slice (some ⟨rb, 0, none⟩) l.length rc) l i Sb.none w7 RK (by omega) (by omega))
              go_wp2_with fail
              refine WI.out.mono ?_
              rintro e w8 ⟨v2, rfl, H5, O5⟩
              have Y2 := Lib.hid H5
              have O2 := Lib.hid (MK.out.next O5)
              have E2 := Lib.hid (BK.out.trans (O5.mono BK.out.size))
              clear H5 O5 WI f0 f1 z0 z1
              have z0 := O2.out.z0
              have z1 := O2.out.z1
              have f0 := frozen_of (j := 0) O2.out
              have f1 := frozen_of (j := 1) O2.out
              go_wp2_with fail
              have R := O2.out.one
              have BZ := below_set (j := 1) (v := .int .u64 0) (below_set (j := 0) (v := .int .u64 1) E2.out hPN.out) hPN.out
              exact bodyPost_ret (v := .tuple #[v2, .agg #[.int .u64 1, .int .u64 0]]) (by simp [results, Tryd.results47, go_sem, R.o0, R.o1]) rfl ⟨v2, by rw [EV.out]; rfl, by rw [EV.out]; exact Y2.out.op O2.out (only_op _ _), BZ⟩
            · have EV : Hid (V = (l.set i ⟨1, n, m + D⟩, (1, 0))) := by rw [if_neg hfull] at EV0; exact EV0
              clear EV0
              have g7 : ¬ ((m : Int) + (D : Int) = (A : Int)) := by omega
              have WI : Hid (∀ y, Hid (RS y (.slice (some ⟨rb, 0, none⟩) l.length rc) l) → Calls Tryd.prog 73 #[.slice (some ⟨rb, 0, none⟩) l.length rc, .int .i64 (i : Nat), .agg #[.int .i64 1, .int .i64 (n : Nat), .int .u64 ((m : Int) + (D : Int))]] y fun e y' => ∃ v', e = .returned v' ∧ RS y' v' (l.set i ⟨1, n, m + D⟩) ∧ Below y.heap.size y y') := fun y h => by
                have := rwith_any (.slice (some ⟨rb, 0, none⟩) l.length rc) l i ⟨1, n, m + D⟩ y h (by omega) (by omega)
                rw [show (((⟨1, n, m + D⟩ : Sb).m : Nat) : Int) = (m : Int) + (D : Int) from by push_cast; rfl] at this
                exact this
              go_upto_region 11 with fail
              refine wp_region_noPanic ?_
              refine wp_region_held_drew (S := fun w' => Cel w.heap.size w' rb i n m) (by kernel_rfl) (CE.out.next ((Below.refl _ _).drew)) (fun hHeld => ?_)
              have DR := (Below.refl w7.heap.size w7).drew
              have RK0 := Lib.hid (RK.out.next DR)
              have MK0 := Lib.hid (MK.out.next DR)
              have CE0 := Lib.hid (CE.out.next DR)
              have BK0 := Lib.hid (BK.out.trans (DR.mono BK.out.size))
              clear DR
              generalize w7.drew = z0 at *
              refine wpAnyH_take (i := 0) (v := .slice (some ⟨rb, 0, none⟩) l.length rc) rfl (by kernel_rfl) (by kernel_rfl) (by kernel_rfl) (fun _ _ _ h => h) (Or.inl ⟨by rfl, fun w hSw => by obtain ⟨_, _, s1, s2⟩ := hSw; go_simp⟩) (by assumption) ?_
              change wpAnyH _ _ _ _ _ _ _ (Act.put _ (some 80) _) _
              simp only [Act.put, List.setIfInBounds_toArray, List.set_cons_zero, List.set_cons_succ]
              refine wpAnyH_take (i := 1) (v := .int .i64 (i : Nat)) rfl (by kernel_rfl) (by kernel_rfl) (by kernel_rfl) (fun _ _ _ h => h) (Or.inl ⟨by rfl, fun w hSw => by obtain ⟨_, _, s1, s2⟩ := hSw; go_simp⟩) (by assumption) ?_
              change wpAnyH _ _ _ _ _ _ _ (Act.put _ (some 81) _) _
              simp only [Act.put, List.setIfInBounds_toArray, List.set_cons_zero, List.set_cons_succ]
              refine wpAnyH_take (i := 2) (v := .slice (some ⟨rb, 0, none⟩) l.length rc) rfl (by kernel_rfl) (by kernel_rfl) (by kernel_rfl) (fun _ _ _ h => h) (Or.inl ⟨by rfl, fun w hSw => by obtain ⟨_, _, s1, s2⟩ := hSw; go_simp⟩) (by assumption) ?_
              change wpAnyH _ _ _ _ _ _ _ (Act.put _ (some 82) _) _
              simp only [Act.put, List.setIfInBounds_toArray, List.set_cons_zero, List.set_cons_succ]
              refine wpAnyH_take (i := 3) (v := .int .i64 (i : Nat)) rfl (by kernel_rfl) (by kernel_rfl) (by kernel_rfl) (fun _ _ _ h => h) (Or.inl ⟨by rfl, fun w hSw => by obtain ⟨_, _, s1, s2⟩ := hSw; go_simp⟩) (by assumption) ?_
              change wpAnyH _ _ _ _ _ _ _ (Act.put _ (some 83) _) _
              simp only [Act.put, List.setIfInBounds_toArray, List.set_cons_zero, List.set_cons_succ]
              refine wpAnyH_take (i := 4) (v := .pointer (some ⟨rb, i * 3, none⟩)) rfl (by kernel_rfl) (by kernel_rfl) (by kernel_rfl) (fun _ _ _ h => h) (Or.inl ⟨by rfl, fun w hSw => by obtain ⟨_, _, s1, s2⟩ := hSw; go_simp⟩) (by assumption) ?_
              change wpAnyH _ _ _ _ _ _ _ (Act.put _ (some 84) _) _
              simp only [Act.put, List.setIfInBounds_toArray, List.set_cons_zero, List.set_cons_succ]
              refine wpAnyH_take (i := 5) (v := .pointer (some ⟨rb, i * 3 + 1, none⟩)) rfl (by kernel_rfl) (by kernel_rfl) (by kernel_rfl) (fun _ _ _ h => h) (Or.inl ⟨by rfl, fun w hSw => by obtain ⟨_, _, s1, s2⟩ := hSw; go_simp⟩) (by assumption) ?_
              change wpAnyH _ _ _ _ _ _ _ (Act.put _ (some 85) _) _
              simp only [Act.put, List.setIfInBounds_toArray, List.set_cons_zero, List.set_cons_succ]
              refine wpAnyH_take (i := 6) (v := .int .i64 (n : Nat)) rfl (by kernel_rfl) (by kernel_rfl) (by kernel_rfl) (fun _ _ _ h => h) (Or.inl ⟨by rfl, fun w hSw => by obtain ⟨_, _, s1, s2⟩ := hSw; go_simp⟩) (by assumption) ?_
              change wpAnyH _ _ _ _ _ _ _ (Act.put _ (some 86) _) _
              simp only [Act.put, List.setIfInBounds_toArray, List.set_cons_zero, List.set_cons_succ]
              refine wpAnyH_take (i := 7) (v := .slice (some ⟨rb, 0, none⟩) l.length rc) rfl (by kernel_rfl) (by kernel_rfl) (by kernel_rfl) (fun _ _ _ h => h) (Or.inl ⟨by rfl, fun w hSw => by obtain ⟨_, _, s1, s2⟩ := hSw; go_simp⟩) (by assumption) ?_
              change wpAnyH _ _ _ _ _ _ _ (Act.put _ (some 87) _) _
              simp only [Act.put, List.setIfInBounds_toArray, List.set_cons_zero, List.set_cons_succ]
              refine wpAnyH_take (i := 8) (v := .int .i64 (i : Nat)) rfl (by kernel_rfl) (by kernel_rfl) (by kernel_rfl) (fun _ _ _ h => h) (Or.inl ⟨by rfl, fun w hSw => by obtain ⟨_, _, s1, s2⟩ := hSw; go_simp⟩) (by assumption) ?_
              change wpAnyH _ _ _ _ _ _ _ (Act.put _ (some 88) _) _
              simp only [Act.put, List.setIfInBounds_toArray, List.set_cons_zero, List.set_cons_succ]
              refine wpAnyH_take (i := 9) (v := .pointer (some ⟨rb, i * 3, none⟩)) rfl (by kernel_rfl) (by kernel_rfl) (by kernel_rfl) (fun _ _ _ h => h) (Or.inl ⟨by rfl, fun w hSw => by obtain ⟨_, _, s1, s2⟩ := hSw; go_simp⟩) (by assumption) ?_
              change wpAnyH _ _ _ _ _ _ _ (Act.put _ (some 89) _) _
              simp only [Act.put, List.setIfInBounds_toArray, List.set_cons_zero, List.set_cons_succ]
              refine wpAnyH_take (i := 10) (v := .pointer (some ⟨rb, i * 3 + 2, none⟩)) rfl (by kernel_rfl) (by kernel_rfl) (by kernel_rfl) (fun _ _ _ h => h) (Or.inl ⟨by rfl, fun w hSw => by obtain ⟨_, _, s1, s2⟩ := hSw; go_simp⟩) (by assumption) ?_
              change wpAnyH _ _ _ _ _ _ _ (Act.put _ (some 90) _) _
              simp only [Act.put, List.setIfInBounds_toArray, List.set_cons_zero, List.set_cons_succ]
              refine wpAnyH_take (i := 11) (v := .int .u64 (m : Nat)) rfl (by kernel_rfl) (by kernel_rfl) (by kernel_rfl) (fun _ _ _ h => h) (Or.inl ⟨by rfl, fun w hSw => by obtain ⟨_, _, s1, s2⟩ := hSw; go_simp⟩) (by assumption) ?_
              change wpAnyH _ _ _ _ _ _ _ (Act.put _ (some 91) _) _
              simp only [Act.put, List.setIfInBounds_toArray, List.set_cons_zero, List.set_cons_succ]
              refine wpAnyH_take (i := 12) (v := .int .u64 (D : Nat)) rfl (by kernel_rfl) (by kernel_rfl) (by kernel_rfl) (fun _ _ _ h => h) (Or.inl ⟨by rfl, fun w hSw => by obtain ⟨_, _, s1, s2⟩ := hSw; go_simp⟩) (by assumption) ?_
              change wpAnyH _ _ _ _ _ _ _ (Act.put _ (some 92) _) _
              simp only [Act.put, List.setIfInBounds_toArray, List.set_cons_zero, List.set_cons_succ]
              refine wpAnyH_take (i := 13) (v := .int .u64 ((m : Int) + (D : Int))) rfl (by kernel_rfl) (by kernel_rfl) (by kernel_rfl) (fun _ _ _ h => h) (Or.inl ⟨by rfl, fun w hSw => by obtain ⟨_, _, s1, s2⟩ := hSw; go_simp⟩) (by assumption) ?_
              change wpAnyH _ _ _ _ _ _ _ (Act.put _ (some 93) _) _
              simp only [Act.put, List.setIfInBounds_toArray, List.set_cons_zero, List.set_cons_succ]
              refine wpAnyH_take (i := 14) (v := .agg #[.int .i64 1, .int .i64 (n : Nat), .int .u64 ((m : Int) + (D : Int))]) rfl (by kernel_rfl) (by kernel_rfl) (by kernel_rfl) (fun _ _ _ h => h) (Or.inl ⟨by rfl, fun w hSw => by obtain ⟨_, _, s1, s2⟩ := hSw; go_simp⟩) (by assumption) ?_
              change wpAnyH _ _ _ _ _ _ _ (Act.put _ (some 94) _) _
              simp only [Act.put, List.setIfInBounds_toArray, List.set_cons_zero, List.set_cons_succ]
              refine wpAnyH_take (i := 16) (v := .agg #[.int .u64 1, .int .u64 0]) rfl (by kernel_rfl) (by kernel_rfl) (by kernel_rfl) (fun _ _ _ h => h) (Or.inl ⟨by rfl, fun w hSw => by obtain ⟨_, _, s1, s2⟩ := hSw; go_simp⟩) (by assumption) ?_
              change wpAnyH _ _ _ _ _ _ _ (Act.put _ (some 96) _) _
              simp only [Act.put, List.setIfInBounds_toArray, List.set_cons_zero, List.set_cons_succ]
              refine wpAnyH_ready (rs := [15]) (by kernel_rfl) (by simp) ?_
              refine AllReadyH.cons rfl (fun K hK => ?_) (AllReadyH.nil)
              · refine step_enter (F := 73) (vals := #[.slice (some ⟨rb, 0, none⟩) l.length rc, .int .i64 (i : Nat), .agg #[.int .i64 1, .int .i64 (n : Nat), .int .u64 ((m : Int) + (D : Int))]]) rfl (by kernel_rfl) ?_
                refine (WI.out _ RK0).mono ?_
                rintro e y1 ⟨v5, rfl, H5, hb⟩
                have Q5 := Lib.hid H5
                have MK1 := Lib.hid (MK0.out.next hb)
                have CE1 := Lib.hid (CE0.out.next hb)
                have BK1 := Lib.hid (BK0.out.trans (hb.mono BK0.out.size))
                clear H5 hb
                show K (Act.put _ (some 95) _) y1
                refine hK.out _ _ (CE1.out) (fun hHeld1 => ?_)
                clear hK K
                simp only [Act.put, List.setIfInBounds_toArray, List.set_cons_zero, List.set_cons_succ]
                refine wpAnyH_take (i := 17) (v := v5) rfl (by kernel_rfl) (by kernel_rfl) (by kernel_rfl) (fun _ _ _ h => h) (Or.inl ⟨by rfl, fun w hSw => by obtain ⟨_, _, s1, s2⟩ := hSw; go_simp⟩) (by assumption) ?_
                change wpAnyH _ _ _ _ _ _ _ (Act.put _ (some 8) _) _
                simp only [Act.put, List.setIfInBounds_toArray, List.set_cons_zero, List.set_cons_succ]
                refine wpAnyH_ready (rs := [18]) (by kernel_rfl) (by simp) ?_
                refine AllReadyH.cons rfl (fun K hK => ?_) AllReadyH.nil
                have z0 := MK1.out.z0
                have z1 := MK1.out.z1
                have f0 := frozen_of (j := 0) MK1.out
                have f1 := frozen_of (j := 1) MK1.out
                have RZ := Lib.hid (Q5.out.op MK1.out (only_op (n := N) (.int .u64 1) (.int .u64 0)))
                have MZ : Hid (OpBox ((y1.setCell ⟨N, 0, none⟩ (.int .u64 1)).setCell ⟨N, 1, none⟩ (.int .u64 0)) N 1 0) := MK1.out.one
                have BZ : Hid (Below w.heap.size w ((y1.setCell ⟨N, 0, none⟩ (.int .u64 1)).setCell ⟨N, 1, none⟩ (.int .u64 0))) := below_set (below_set BK1.out hPN.out) hPN.out
                have CZ := Lib.hid (CE1.out.op hPN.out (.int .u64 1) (.int .u64 0))
                go_simp
                refine hK.out _ _ (CZ.out) (fun hHeldZ => ?_)
                clear hK K
                refine ⟨by kernel_rfl, ?_⟩
                refine NoPanic.normal ?_
                go_wp2_with fail
                exact bodyPost_ret (v := .tuple #[v5, .agg #[.int .u64 1, .int .u64 0]]) (by simp [results, Tryd.results47, go_sem, MZ.out.o0, MZ.out.o1]) rfl ⟨v5, by rw [EV.out]; rfl, by rw [EV.out]; exact RZ.out, BZ.out⟩


    · have EV := Lib.hid (ANO.out (fun h => hk h.1))
      generalize flushP (capN len f) l i D = V at *
      have g4 : ¬ ((k : Nat) : Int) = 1 := by omega
      go_enter Tryd.func47, Tryd.ntmps47
      go_wp2_with fail
      exact bodyPost_ret (v := .tuple #[.slice (some ⟨rb, 0, none⟩) l.length rc, .agg #[.int .u64 0, .int .u64 0]]) (by simp [results, Tryd.results47, go_sem, z0, z1]) rfl ⟨_, by rw [EV.out]; rfl, by rw [EV.out]; exact R1.out, B1.out⟩
  · obtain ⟨ra, rc, rfl⟩ := ORow.form R1.out
    have EV := Lib.hid (flush_none (cap := capN len f) (i := i) (back := D) (l := l) (by simp; omega))
    generalize flushP (capN len f) l i D = V at *
    have g1 : (l.length : Int) ≤ (i : Int) := by omega
    have g2 : decide ((l.length : Int) ≤ (i : Int)) = true := by simpa using g1
    go_enter Tryd.func47, Tryd.ntmps47
    go_wp2_with fail
    exact bodyPost_ret (v := .tuple #[.slice ra l.length rc, .agg #[.int .u64 0, .int .u64 0]]) (by simp [results, Tryd.results47, go_sem, z0, z1]) rfl ⟨_, by rw [EV.out]; rfl, by rw [EV.out]; exact R1.out, B1.out⟩
end Go.Proofs.YtkogeeaoppkhkaaDoor
