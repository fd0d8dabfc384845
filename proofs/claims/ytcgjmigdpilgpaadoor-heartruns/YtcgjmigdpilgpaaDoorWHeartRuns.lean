/-
  The walk of the statement HeartRuns: runs of any lengths lie one behind the other, as long as there is room; given back, in any order, all is free.
-/
import Derived.Test.YtcgjmigdpilgpaaDoorHeart9
import Derived.Test.YtcgjmigdpilgpaaDoorHeart10
import Derived.Test.YtcgjmigdpilgpaaDoorHeartRM
import Derived.Test.YtcgjmigdpilgpaaDoorRowU8
import Derived.Test.YtcgjmigdpilgpaaDoorRowOwnI
import Derived.Test.YtcgjmigdpilgpaaDoorHeartS
namespace Go.Proofs.YtcgjmigdpilgpaaDoor
open Go.RowKit Go.Sort Go.Shelf

set_option maxRecDepth 20000 in
set_option maxHeartbeats 4000000 in
theorem hruns_many (W T : Int) (S B : Nat) (ad : Option Addr) (len cap : Nat) (f : Nat → Int) (a : Option Addr) (n c : Nat) (tu : Bool) (w : World) (hr : Hid (RowI w ad len f)) (hl : len < 9223372036854775808) (hn : n < 9223372036854775808) (hF : Hid (FldAt w)) (hm : Hid (mayB W S B T len f = true)) (hn2 : 100 < n) :
    Calls Tryd.prog 7 #[.agg #[.int .i64 W, .int .i64 (S : Nat), .int .i64 (B : Nat), .int .i64 T, .slice ad len cap], .slice a n c, .bool tu] w fun e w' => e = .returned (.bool true) ∧ Below w.heap.size w w' := by
  have g1 : decide ((100 : Int) < (n : Int)) = true := by simp; omega
  have K0 : Hid (Ar w (w.alloc (.cells #[.int .i64 W, .int .i64 (S : Nat), .int .i64 (B : Nat), .int .i64 T, .slice ad len cap] 24)) w.heap.size W (S : Nat) (B : Nat) T ad len cap f) := Ar.start hr.out
  have F0 := Lib.hid (hF.out.next (box1 w (.cells #[.int .i64 W, .int .i64 (S : Nat), .int .i64 (B : Nat), .int .i64 T, .slice ad len cap] 24)))
  obtain ⟨⟨w1, w2⟩, ⟨s1, s2⟩, ⟨b1, b2⟩, ⟨t1, t2⟩, ⟨l1, l2⟩, hcls⟩ := may_nums hm.out
  have OK := Lib.hid (cls_ok hcls)
  clear hcls w1 w2 t1 t2
  have L3 : 3 ≤ w.heap.size := hF.out.tab.lt
  go_enter Tryd.func7, Tryd.ntmps7
  go_wp2_with fail
  generalize w.alloc (.cells #[.int .i64 W, .int .i64 (S : Nat), .int .i64 (B : Nat), .int .i64 T, .slice ad len cap] 24) = w0 at *
  generalize hM : w.heap.size = M at *
  refine (speaks11 _ F0).mono ?_
  rintro e wa ⟨rfl, hb⟩
  have K1 := Lib.hid (K0.out.next hb)
  clear hb K0 F0
  obtain ⟨c0, c1, c2, c3, c4⟩ := cfg_cells K1.out.c
  go_wp2_with fail
  refine (rmay_any W (S : Nat) (B : Nat) T ad len cap f _ (Lib.hid K1.out.r) hl).mono ?_
  rintro e wb ⟨he, hb⟩
  obtain rfl : e = .returned (.bool true) := by rw [he, hm.out]
  have K2 := Lib.hid (K1.out.next hb)
  clear hb K1 c0 c1 c2 c3 c4 he
  obtain ⟨c0, c1, c2, c3, c4⟩ := cfg_cells K2.out.c
  go_wp2_with fail
  go_ret
  exact ⟨rfl, by rw [hM]; exact K2.out.b⟩
set_option maxRecDepth 20000 in
set_option maxHeartbeats 4000000 in
theorem hruns_yes (W T : Int) (S B : Nat) (ad : Option Addr) (len cap : Nat) (f : Nat → Int) (a : Option Addr) (n c : Nat) (g : Nat → Nat) (tu : Bool) (w : World) (hr : Hid (RowI w ad len f)) (hl : len < 9223372036854775808) (hz : Hid (RowU w a n g)) (hn : n < 9223372036854775808) (hF : Hid (FldAt w)) (hm : Hid (mayB W S B T len f = true)) (hn2 : n ≤ 100) :
    Calls Tryd.prog 7 #[.agg #[.int .i64 W, .int .i64 (S : Nat), .int .i64 (B : Nat), .int .i64 T, .slice ad len cap], .slice a n c, .bool tu] w fun e w' => e = .returned (.bool true) ∧ Below w.heap.size w w' := by
  have g1 : decide ((100 : Int) < (n : Int)) = false := by simp; omega
  have K0 : Hid (Ar w (w.alloc (.cells #[.int .i64 W, .int .i64 (S : Nat), .int .i64 (B : Nat), .int .i64 T, .slice ad len cap] 24)) w.heap.size W (S : Nat) (B : Nat) T ad len cap f) := Ar.start hr.out
  have F0 := Lib.hid (hF.out.next (box1 w (.cells #[.int .i64 W, .int .i64 (S : Nat), .int .i64 (B : Nat), .int .i64 T, .slice ad len cap] 24)))
  obtain ⟨⟨w1, w2⟩, ⟨s1, s2⟩, ⟨b1, b2⟩, ⟨t1, t2⟩, ⟨l1, l2⟩, hcls⟩ := may_nums hm.out
  have OK := Lib.hid (cls_ok hcls)
  clear hcls w1 w2 t1 t2
  have L3 : 3 ≤ w.heap.size := hF.out.tab.lt
  go_enter Tryd.func7, Tryd.ntmps7
  go_wp2_with fail
  generalize w.alloc (.cells #[.int .i64 W, .int .i64 (S : Nat), .int .i64 (B : Nat), .int .i64 T, .slice ad len cap] 24) = w0 at *
  generalize hM : w.heap.size = M at *
  refine (speaks11 _ F0).mono ?_
  rintro e wa ⟨rfl, hb⟩
  have K1 := Lib.hid (K0.out.next hb)
  clear hb K0 F0
  obtain ⟨c0, c1, c2, c3, c4⟩ := cfg_cells K1.out.c
  go_wp2_with fail
  refine (rmay_any W (S : Nat) (B : Nat) T ad len cap f _ (Lib.hid K1.out.r) hl).mono ?_
  rintro e wb ⟨he, hb⟩
  obtain rfl : e = .returned (.bool true) := by rw [he, hm.out]
  have K2 := Lib.hid (K1.out.next hb)
  clear hb K1 c0 c1 c2 c3 c4 he
  obtain ⟨c0, c1, c2, c3, c4⟩ := cfg_cells K2.out.c
  go_wp2_with fail
  refine (hnew_any W (S : Nat) (B : Nat) T ad len cap f _ (Lib.hid K2.out.r) (by omega)).mono ?_
  rintro e wc ⟨cb, rfl, n1, n2, hb⟩
  have E1 := Lib.hid n1
  have E2 := Lib.hid n2
  have E3 := Lib.hid hb
  clear n1 n2 hb c0 c1 c2 c3 c4
  have WO : Hid (∀ w, Calls Tryd.prog 18 #[.agg #[.int .i64 W, .int .i64 (S : Nat), .int .i64 (B : Nat), .int .i64 T, .slice (some ⟨cb, 0, none⟩) len len]] w fun e w' => e = .returned (.int .i64 ((2 * S : Nat) : Int)) ∧ Below w.heap.size w w') := fun w => (hwords_any W (S : Nat) (B : Nat) T _ w (by omega) (by omega)).mono fun _ _ h => ⟨h.1, h.2⟩
  have X1 := Lib.hid (box1 wc (.cells #[.int .i64 W, .int .i64 (S : Nat), .int .i64 (B : Nat), .int .i64 T, .slice (some ⟨cb, 0, none⟩) len len] 29))
  have X2 : Hid (HBox _ wc.heap.size W (S : Nat) (B : Nat) T (.slice (some ⟨cb, 0, none⟩) len len)) := heap_new wc (.cells #[.int .i64 W, .int .i64 (S : Nat), .int .i64 (B : Nat), .int .i64 T, .slice (some ⟨cb, 0, none⟩) len len] 29)
  have X3 : Hid ((wc.alloc (.cells #[.int .i64 W, .int .i64 (S : Nat), .int .i64 (B : Nat), .int .i64 T, .slice (some ⟨cb, 0, none⟩) len len] 29)).heap.size = wc.heap.size + 1) := by show _ = _; simp
  go_wp2_with fail
  generalize wc.alloc (.cells #[.int .i64 W, .int .i64 (S : Nat), .int .i64 (B : Nat), .int .i64 T, .slice (some ⟨cb, 0, none⟩) len len] 29) = wd at *
  refine (WO.out _).mono ?_
  rintro e we ⟨rfl, hb⟩
  have X4 := Lib.hid hb
  clear hb WO
  obtain ⟨i0, hi, hz0, hz1, hz2⟩ := info_parts info64
  go_wp2_with (at_make; refine wpList_make_full _ rfl _ _ 33 rfl 0 35 i0 (.int .u64 0) 1 Tryd.underlying33 hi hz0 hz1 .i64 .i64 _ _ (2 * S) rfl rfl (by omega) (by omega) (by rw [hz2]; omega) (by unfold maxLen; omega) (Nat.zero_le _) ?_)
  intro w5 ho hg
  have BG := grown_below hg rfl
  have K5 : Hid (Su w w5 M wc.heap.size we.heap.size cb W T S B len ad cap f (List.replicate S Sb.none)) := by
    have q1 := X1.out.size
    have q3 := X3.out
    have q4 := X4.out.size
    have B5 : Below wc.heap.size wc w5 := (X1.out.trans (X4.out.mono (by omega))).trans (BG.mono (by omega))
    exact su_start K2.out hM (by omega) hF.out E1.out E2.out E3.out B5 ((X2.out.next X4.out).next BG) (by omega) (hw_new ho (by omega)) OK.out (by omega)
  clear ho hg BG hi hz0 hz1 hz2 X1 X2 X3 X4 E1 E2 E3 K2
  generalize hN : wc.heap.size = N at *
  generalize hb0 : we.heap.size = b at *
  clear hN hb0
  obtain ⟨c0, c1, c2, c3, c4⟩ := cfg_cells K5.out.cfg
  have d0 := K5.out.sp.box.c0
  have d1 := K5.out.sp.box.c1
  have d2 := K5.out.sp.box.c2
  have d3 := K5.out.sp.box.c3
  have d4 := K5.out.sp.box.c4
  go_wp2_with fail
  clear c0 c1 c2 c3 c4 d0 d1 d2 d3 d4
  go_loopw [8, 10, 34] (fun u8 u10 u34 wr => ∃ (k : Nat) (R : List (Nat × Bool)), k ≤ n ∧ u34 = .int .i64 (k : Nat) ∧ u8 = .int .i64 (sumR R : Nat) ∧ sumR R ≤ S ∧ Hid (∀ x ∈ R, 1 ≤ x.1 ∧ x.2 = false) ∧ Hid (Su w wr M N b cb W T S B len ad cap f (layR R S)) ∧ Hid (Lr w wr u10 (starts 0 R) M N b cb)) (fun _ _ u34 _ => n - (intOf u34).toNat)
  case atStart =>
    exact ⟨0, [], by omega, rfl, rfl, by simp [sumR], fun _ h => (by cases h), by simpa [layR, sumR] using K5, Lr.nil⟩
  case round =>
    obtain ⟨k, R, hk, rfl, rfl, hsum, hR, G, E⟩ := hrel
    by_cases hlt : k < n
    · obtain ⟨ab, aoff, rfl, hcell⟩ := (hz.out.next G.out.sp.be).at hlt
      have hx := hz.out.small k hlt
      have l3 : (k : Int) < (n : Int) := by omega
      generalize g k = x at *
      obtain ⟨r, hr1, hr2⟩ : ∃ r : Nat, (x : Int) % (S : Int) = (r : Int) ∧ r < S := ⟨x % S, by simp, Nat.mod_lt _ (by omega)⟩
      have hAQ : askA 3 (1 + (r : Int)) = 3 + 256 * (1 + r) ∧ askB (1 + (r : Int)) 0 = 0 := by
        unfold askA askB
        rw [if_pos (by omega), if_pos (by omega)]
        omega
      obtain ⟨AQ, hA1⟩ : ∃ AQ, 3 + 256 * (1 + r) = AQ := ⟨_, rfl⟩
      have TK : Hid (∀ y, FldAt y → Calls Tryd.prog 26 #[.int .i64 (1 + (r : Int))] y fun e y' => e = .returned (.agg #[.int .u64 (AQ : Nat), .int .u64 0]) ∧ Below y.heap.size y y') := fun y h => by
        have := takeOp_any (1 + (r : Int)) y (by omega) (by omega) (Lib.hid h)
        rw [hAQ.1, hAQ.2, hA1] at this
        exact this
      have hTL := take_lay hR.out hsum (n := 1 + r) (by omega)
      have hAP : appP (capN len f) B (layR R S) (AQ, 0) = takeP (layR R S) (1 + r) := by
        rw [app3 (by omega) (by omega), show AQ / 256 = 1 + r from by omega]
      rw [hTL] at hAP
      obtain ⟨c0, c1, c2, c3, c4⟩ := cfg_cells G.out.cfg
      have d0 := G.out.sp.box.c0
      have d1 := G.out.sp.box.c1
      have d2 := G.out.sp.box.c2
      have d3 := G.out.sp.box.c3
      have d4 := G.out.sp.box.c4
      by_cases hq : sumR R + (1 + r) ≤ S
      · rw [if_pos hq] at hAP
        have AP : Hid (∀ y, Su w y M N b cb W T S B len ad cap f (layR R S) → Calls Tryd.prog 21 #[.agg #[.int .i64 W, .int .i64 (S : Nat), .int .i64 (B : Nat), .int .i64 T, .slice (some ⟨cb, 0, none⟩) len len], .slice (some ⟨b, 0, none⟩) (2 * S) (2 * S), .agg #[.int .u64 (AQ : Nat), .int .u64 0]] y fun e y' => e = .returned (.agg #[.int .u64 ((sumR R + 1 : Nat) : Int), .int .u64 ((0 : Nat) : Int)]) ∧ Su w y' M N b cb W T S B len ad cap f (layR (R ++ [(1 + r, false)]) S) ∧ Only [b] y y') := fun y h => by
          have := h.apply (A := AQ) (D := 0) (c := 2 * S) (by omega) (by decide)
          rw [hAP] at this
          exact this
        clear hAP hTL hAQ hA1
        go_upto_region 12 with fail
        go_cut [14] (fun u14 wx => ∃ nb, u14 = .pointer (some ⟨nb, 0, none⟩) ∧ Hid (Su w wx M N b cb W T S B len ad cap f (layR (R ++ [(1 + r, false)]) S)) ∧ Hid (Bx w wx nb (sumR R + 1) 0 N b cb ∧ nb ≠ M ∧ ∀ q, u10.ownBlock = some q → q ≠ nb) ∧ Hid (Lr w wx u10 (starts 0 R) M N b cb))
        case first =>
          refine wp_region_noPanic ?_
          refine wp_region_held_drew (S := fun w' => HBox w' N W (S : Nat) (B : Nat) T (.slice (some ⟨cb, 0, none⟩) len len)) (by kernel_rfl) (G.out.sp.box) (fun hHeld => ?_)
          have DR := (Below.refl wr.heap.size wr).drew
          have G0 := Lib.hid (G.out.next DR)
          have E0 := Lib.hid (E.out.next DR)
          clear DR
          generalize wr.drew = z0 at *
          refine wpAnyH_take (i := 0) (v := .agg #[.int .i64 W, .int .i64 (S : Nat), .int .i64 (B : Nat), .int .i64 T, .slice (some ⟨cb, 0, none⟩) len len]) rfl (by kernel_rfl) (by kernel_rfl) (by kernel_rfl) (fun _ _ _ h => h) (Or.inl ⟨by rfl, fun w hSw => by have c0 := HBox.c0 hSw; have c1 := HBox.c1 hSw; have c2 := HBox.c2 hSw; have c3 := HBox.c3 hSw; have c4 := HBox.c4 hSw; go_simp⟩) (by assumption) ?_
          change wpAnyH _ _ _ _ _ _ _ (Act.put _ (some 44) _) _
          simp only [Act.put, List.setIfInBounds_toArray, List.set_cons_zero, List.set_cons_succ]
          refine wpAnyH_take (i := 1) (v := .slice (some ⟨b, 0, none⟩) (2 * S) (2 * S)) rfl (by kernel_rfl) (by kernel_rfl) (by kernel_rfl) (fun _ _ _ h => h) (Or.inl ⟨by rfl, fun w hSw => by have c0 := HBox.c0 hSw; have c1 := HBox.c1 hSw; have c2 := HBox.c2 hSw; have c3 := HBox.c3 hSw; have c4 := HBox.c4 hSw; go_simp⟩) (by assumption) ?_
          change wpAnyH _ _ _ _ _ _ _ (Act.put _ (some 45) _) _
          simp only [Act.put, List.setIfInBounds_toArray, List.set_cons_zero, List.set_cons_succ]
          refine wpAnyH_take (i := 2) (v := .int .i64 (1 + (r : Int))) rfl (by kernel_rfl) (by kernel_rfl) (by kernel_rfl) (fun _ _ _ h => h) (Or.inl ⟨by rfl, fun w hSw => by have c0 := HBox.c0 hSw; have c1 := HBox.c1 hSw; have c2 := HBox.c2 hSw; have c3 := HBox.c3 hSw; have c4 := HBox.c4 hSw; go_simp⟩) (by assumption) ?_
          change wpAnyH _ _ _ _ _ _ _ (Act.put _ (some 46) _) _
          simp only [Act.put, List.setIfInBounds_toArray, List.set_cons_zero, List.set_cons_succ]
          refine wpAnyH_ready (rs := [3, 5]) (by kernel_rfl) (by simp) ?_
          refine AllReadyH.cons rfl (fun K hK => ?_) (AllReadyH.cons rfl (fun K hK => ?_) (AllReadyH.nil))
          · refine step_enter (F := 26) (vals := #[.int .i64 (1 + (r : Int))]) rfl (by kernel_rfl) ?_
            refine (TK.out _ G0.out.sp.fl).mono ?_
            rintro e y2 ⟨rfl, hb⟩
            have G2 := Lib.hid (G0.out.next hb)
            have E2 := Lib.hid (E0.out.next hb)
            clear hb
            show K (Act.put _ (some 47) _) y2
            refine hK.out _ _ (G2.out.sp.box) (fun _ => ?_)
            clear hK K
            refine wpAnyH_ready (rs := [4, 5]) (by kernel_rfl) (by simp) ?_
            refine AllReadyH.cons rfl (fun K hK => ?_) (AllReadyH.cons rfl (fun K hK => ?_) (AllReadyH.nil))
            · refine step_enter (F := 21) (vals := #[.agg #[.int .i64 W, .int .i64 (S : Nat), .int .i64 (B : Nat), .int .i64 T, .slice (some ⟨cb, 0, none⟩) len len], .slice (some ⟨b, 0, none⟩) (2 * S) (2 * S), .agg #[.int .u64 (AQ : Nat), .int .u64 0]]) rfl (by kernel_rfl) ?_
              refine (AP.out _ G2.out).mono ?_
              rintro e y4 ⟨rfl, hg, ho⟩
              have G4 := Lib.hid hg
              have E4 := Lib.hid (E2.out.stayB ho)
              clear hg ho
              show K (Act.put _ (some 48) _) y4
              refine hK.out _ _ (G4.out.sp.box) (fun _ => ?_)
              clear hK K
              refine wpAnyH_ready (rs := [5]) (by kernel_rfl) (by simp) ?_
              refine AllReadyH.cons rfl (fun K hK => ?_) (AllReadyH.nil)
              · refine step_value (v := .pointer (some ⟨y4.heap.size, 0, none⟩)) (w' := y4.alloc (.cells #[.int .u64 0, .int .u64 0] 37)) rfl (by kernel_rfl) ?_
                have hb := box1 y4 (.cells #[.int .u64 0, .int .u64 0] 37)
                have G6 := Lib.hid (G4.out.next hb)
                have X6 : Hid (Bx w (y4.alloc (.cells #[.int .u64 0, .int .u64 0] 37)) y4.heap.size 0 0 N b cb ∧ y4.heap.size ≠ M ∧ ∀ q, u10.ownBlock = some q → q ≠ y4.heap.size) := ⟨G4.out.alloc.1, G4.out.alloc.2, E4.out.far⟩
                have E6 := Lib.hid (E4.out.next hb)
                clear hb
                generalize y4.alloc (.cells #[.int .u64 0, .int .u64 0] 37) = y6 at *
                generalize y4.heap.size = nb at *
                show K (Act.put _ (some 14) _) y6
                refine hK.out _ _ (G6.out.sp.box) (fun _ => ?_)
                clear hK K
                refine wpAnyH_ready (rs := [6]) (by kernel_rfl) (by simp) ?_
                refine AllReadyH.cons rfl (fun K hK => ?_) AllReadyH.nil
                have z0 := X6.out.1.op.z0
                have z1 := X6.out.1.op.z1
                have f0 := frozen_of (j := 0) X6.out.1.op
                have f1 := frozen_of (j := 1) X6.out.1.op
                have nn := X6.out.1.ne
                have nM := X6.out.2.1
                have nX := X6.out.2.2
                have OO := only_op (w := y6) (n := nb) (.int .u64 (sumR R + 1 : Nat)) (.int .u64 (0 : Nat))
                have GZ := Lib.hid (G6.out.stay OO (by simp; omega))
                have XZ : Hid (Bx w _ nb (sumR R + 1) (0) N b cb ∧ nb ≠ M ∧ ∀ q, u10.ownBlock = some q → q ≠ nb) := ⟨⟨X6.out.1.op.set (sumR R + 1) (0), nn⟩, nM, nX⟩
                have EZ := Lib.hid (E6.out.stay OO nX)
                go_simp
                refine hK.out _ _ (GZ.out.sp.box) (fun _ => ?_)
                refine ⟨by kernel_rfl, ?_⟩
                refine NoPanic.normal ?_
                go_wp2_with fail
                go_meet
                case rel => exact ⟨nb, rfl, GZ, XZ, EZ⟩

            · refine step_value (v := .pointer (some ⟨y2.heap.size, 0, none⟩)) (w' := y2.alloc (.cells #[.int .u64 0, .int .u64 0] 37)) rfl (by kernel_rfl) ?_
              have hb := box1 y2 (.cells #[.int .u64 0, .int .u64 0] 37)
              have G8 := Lib.hid (G2.out.next hb)
              have X8 : Hid (Bx w (y2.alloc (.cells #[.int .u64 0, .int .u64 0] 37)) y2.heap.size 0 0 N b cb ∧ y2.heap.size ≠ M ∧ ∀ q, u10.ownBlock = some q → q ≠ y2.heap.size) := ⟨G2.out.alloc.1, G2.out.alloc.2, E2.out.far⟩
              have E8 := Lib.hid (E2.out.next hb)
              clear hb
              generalize y2.alloc (.cells #[.int .u64 0, .int .u64 0] 37) = y8 at *
              generalize y2.heap.size = nb at *
              show K (Act.put _ (some 14) _) y8
              refine hK.out _ _ (G8.out.sp.box) (fun _ => ?_)
              clear hK K
              refine wpAnyH_ready (rs := [4]) (by kernel_rfl) (by simp) ?_
              refine AllReadyH.cons rfl (fun K hK => ?_) (AllReadyH.nil)
              · refine step_enter (F := 21) (vals := #[.agg #[.int .i64 W, .int .i64 (S : Nat), .int .i64 (B : Nat), .int .i64 T, .slice (some ⟨cb, 0, none⟩) len len], .slice (some ⟨b, 0, none⟩) (2 * S) (2 * S), .agg #[.int .u64 (AQ : Nat), .int .u64 0]]) rfl (by kernel_rfl) ?_
                refine (AP.out _ G8.out).mono ?_
                rintro e y10 ⟨rfl, hg, ho⟩
                have G10 := Lib.hid hg
                have nn := X8.out.1.ne
                have X10 : Hid (Bx w y10 nb 0 0 N b cb ∧ nb ≠ M ∧ ∀ q, u10.ownBlock = some q → q ≠ nb) := ⟨X8.out.1.stay ho (by simp; omega), X8.out.2⟩
                have E10 := Lib.hid (E8.out.stayB ho)
                clear hg ho
                show K (Act.put _ (some 48) _) y10
                refine hK.out _ _ (G10.out.sp.box) (fun _ => ?_)
                clear hK K
                refine wpAnyH_ready (rs := [6]) (by kernel_rfl) (by simp) ?_
                refine AllReadyH.cons rfl (fun K hK => ?_) AllReadyH.nil
                have z0 := X10.out.1.op.z0
                have z1 := X10.out.1.op.z1
                have f0 := frozen_of (j := 0) X10.out.1.op
                have f1 := frozen_of (j := 1) X10.out.1.op
                have nn := X10.out.1.ne
                have nM := X10.out.2.1
                have nX := X10.out.2.2
                have OO := only_op (w := y10) (n := nb) (.int .u64 (sumR R + 1 : Nat)) (.int .u64 (0 : Nat))
                have GZ := Lib.hid (G10.out.stay OO (by simp; omega))
                have XZ : Hid (Bx w _ nb (sumR R + 1) (0) N b cb ∧ nb ≠ M ∧ ∀ q, u10.ownBlock = some q → q ≠ nb) := ⟨⟨X10.out.1.op.set (sumR R + 1) (0), nn⟩, nM, nX⟩
                have EZ := Lib.hid (E10.out.stay OO nX)
                go_simp
                refine hK.out _ _ (GZ.out.sp.box) (fun _ => ?_)
                refine ⟨by kernel_rfl, ?_⟩
                refine NoPanic.normal ?_
                go_wp2_with fail
                go_meet
                case rel => exact ⟨nb, rfl, GZ, XZ, EZ⟩


          · refine step_value (v := .pointer (some ⟨z0.heap.size, 0, none⟩)) (w' := z0.alloc (.cells #[.int .u64 0, .int .u64 0] 37)) rfl (by kernel_rfl) ?_
            have hb := box1 z0 (.cells #[.int .u64 0, .int .u64 0] 37)
            have G12 := Lib.hid (G0.out.next hb)
            have X12 : Hid (Bx w (z0.alloc (.cells #[.int .u64 0, .int .u64 0] 37)) z0.heap.size 0 0 N b cb ∧ z0.heap.size ≠ M ∧ ∀ q, u10.ownBlock = some q → q ≠ z0.heap.size) := ⟨G0.out.alloc.1, G0.out.alloc.2, E0.out.far⟩
            have E12 := Lib.hid (E0.out.next hb)
            clear hb
            generalize z0.alloc (.cells #[.int .u64 0, .int .u64 0] 37) = y12 at *
            generalize z0.heap.size = nb at *
            show K (Act.put _ (some 14) _) y12
            refine hK.out _ _ (G12.out.sp.box) (fun _ => ?_)
            clear hK K
            refine wpAnyH_ready (rs := [3]) (by kernel_rfl) (by simp) ?_
            refine AllReadyH.cons rfl (fun K hK => ?_) (AllReadyH.nil)
            · refine step_enter (F := 26) (vals := #[.int .i64 (1 + (r : Int))]) rfl (by kernel_rfl) ?_
              refine (TK.out _ G12.out.sp.fl).mono ?_
              rintro e y14 ⟨rfl, hb⟩
              have G14 := Lib.hid (G12.out.next hb)
              have X14 : Hid (Bx w y14 nb 0 0 N b cb ∧ nb ≠ M ∧ ∀ q, u10.ownBlock = some q → q ≠ nb) := ⟨X12.out.1.next hb, X12.out.2⟩
              have E14 := Lib.hid (E12.out.next hb)
              clear hb
              show K (Act.put _ (some 47) _) y14
              refine hK.out _ _ (G14.out.sp.box) (fun _ => ?_)
              clear hK K
              refine wpAnyH_ready (rs := [4]) (by kernel_rfl) (by simp) ?_
              refine AllReadyH.cons rfl (fun K hK => ?_) (AllReadyH.nil)
              · refine step_enter (F := 21) (vals := #[.agg #[.int .i64 W, .int .i64 (S : Nat), .int .i64 (B : Nat), .int .i64 T, .slice (some ⟨cb, 0, none⟩) len len], .slice (some ⟨b, 0, none⟩) (2 * S) (2 * S), .agg #[.int .u64 (AQ : Nat), .int .u64 0]]) rfl (by kernel_rfl) ?_
                refine (AP.out _ G14.out).mono ?_
                rintro e y16 ⟨rfl, hg, ho⟩
                have G16 := Lib.hid hg
                have nn := X14.out.1.ne
                have X16 : Hid (Bx w y16 nb 0 0 N b cb ∧ nb ≠ M ∧ ∀ q, u10.ownBlock = some q → q ≠ nb) := ⟨X14.out.1.stay ho (by simp; omega), X14.out.2⟩
                have E16 := Lib.hid (E14.out.stayB ho)
                clear hg ho
                show K (Act.put _ (some 48) _) y16
                refine hK.out _ _ (G16.out.sp.box) (fun _ => ?_)
                clear hK K
                refine wpAnyH_ready (rs := [6]) (by kernel_rfl) (by simp) ?_
                refine AllReadyH.cons rfl (fun K hK => ?_) AllReadyH.nil
                have z0 := X16.out.1.op.z0
                have z1 := X16.out.1.op.z1
                have f0 := frozen_of (j := 0) X16.out.1.op
                have f1 := frozen_of (j := 1) X16.out.1.op
                have nn := X16.out.1.ne
                have nM := X16.out.2.1
                have nX := X16.out.2.2
                have OO := only_op (w := y16) (n := nb) (.int .u64 (sumR R + 1 : Nat)) (.int .u64 (0 : Nat))
                have GZ := Lib.hid (G16.out.stay OO (by simp; omega))
                have XZ : Hid (Bx w _ nb (sumR R + 1) (0) N b cb ∧ nb ≠ M ∧ ∀ q, u10.ownBlock = some q → q ≠ nb) := ⟨⟨X16.out.1.op.set (sumR R + 1) (0), nn⟩, nM, nX⟩
                have EZ := Lib.hid (E16.out.stay OO nX)
                go_simp
                refine hK.out _ _ (GZ.out.sp.box) (fun _ => ?_)
                refine ⟨by kernel_rfl, ?_⟩
                refine NoPanic.normal ?_
                go_wp2_with fail
                go_meet
                case rel => exact ⟨nb, rfl, GZ, XZ, EZ⟩



        case rest =>
          obtain ⟨nb, rfl, G2, X2, E2⟩ := hcut
          clear G E c0 c1 c2 c3 c4 d0 d1 d2 d3 d4 TK AP
          obtain ⟨c0, c1, c2, c3, c4⟩ := cfg_cells G2.out.cfg
          have e0 : _ = some (Value.int .u64 ((sumR R : Int) + 1)) := X2.out.1.op.c0
          have e1 : _ = some (Value.int .u64 0) := X2.out.1.op.c1
          have g2 : ¬ (S : Int) < (sumR R : Int) + (1 + (r : Int)) := by omega
          have g3 : decide ((S : Int) < (sumR R : Int) + (1 + (r : Int))) = false := by simpa using g2
          have AB := Lib.hid (box1 wc (.cells #[.int .i64 (sumR R : Nat)] 3))
          have V3 := Lib.hid (heap_new wc (.cells #[.int .i64 (sumR R : Nat)] 3))
          have G3 := Lib.hid (G2.out.next AB.out)
          have E3 := Lib.hid (E2.out.next AB.out)
          have hlen := len_sumR (fun x hx => (hR.out x hx).1)
          obtain ⟨v', w8, hrun, L8, gr8, bq, cq, rfl⟩ := Lr.app (x := sumR R) E3.out V3.out (by rw [starts_len]; omega) 22 (by
            have h1 := cfg_lt G3.out.cfg
            have h2 := heap_lt G3.out.sp.box
            have h3 := G3.out.sp.hw.lt
            have h4 := heap_lt G3.out.sp.row
            rintro k (rfl | rfl | rfl | rfl) <;> assumption) G3.out.sp.be.size
          have HR := Lib.hid hrun
          have G8 : Hid (Su w w8 M N b cb W T S B len ad cap f (layR (R ++ [(1 + r, false)]) S)) := G3.out.stay (Only.of_grown (l := u10.ownBlock.toList) gr8 (fun k hk => by rw [hk]; simp)) (fun k hk => E3.out.ne k (by simpa using hk))
          have L9 : Hid (Lr w w8 (.slice (some ⟨bq, 0, none⟩) ((starts 0 R).length + 1) cq) (starts 0 (R ++ [(1 + r, false)])) M N b cb) := by rw [starts_app, Nat.zero_add]; exact L8
          clear L8 gr8 G3 E3 hrun AB V3 E2 X2
          go_wp2_with (at_builtin; refine wpList_append_by rfl _ _ 22 22 rfl u10 (.slice (some ⟨wc.heap.size, 0, none⟩) 1 1) (by rfl) (by rfl) HR.out ?_)
          go_wp2_with fail
          go_roundw
          case rel =>
            refine ⟨k + 1, R ++ [(1 + r, false)], by omega, by push_cast; rfl, ?_, by rw [sumR_app]; simp only [sumR]; omega, ?_, G8, L9⟩
            · rw [sumR_app]; simp only [sumR, Nat.add_zero]; push_cast; rfl
            · intro x hx
              rcases List.mem_append.1 hx with h | h
              · exact hR.out x h
              · simp at h; subst h; exact ⟨by simp, rfl⟩
          case measure => simp [intOf]; omega
      · rw [if_neg hq] at hAP
        have AP : Hid (∀ y, Su w y M N b cb W T S B len ad cap f (layR R S) → Calls Tryd.prog 21 #[.agg #[.int .i64 W, .int .i64 (S : Nat), .int .i64 (B : Nat), .int .i64 T, .slice (some ⟨cb, 0, none⟩) len len], .slice (some ⟨b, 0, none⟩) (2 * S) (2 * S), .agg #[.int .u64 (AQ : Nat), .int .u64 0]] y fun e y' => e = .returned (.agg #[.int .u64 ((0 : Nat) : Int), .int .u64 ((0 : Nat) : Int)]) ∧ Su w y' M N b cb W T S B len ad cap f (layR R S) ∧ Only [b] y y') := fun y h => by
          have := h.apply (A := AQ) (D := 0) (c := 2 * S) (by omega) (by decide)
          rw [hAP] at this
          exact this
        clear hAP hTL hAQ hA1
        go_upto_region 12 with fail
        go_cut [14] (fun u14 wx => ∃ nb, u14 = .pointer (some ⟨nb, 0, none⟩) ∧ Hid (Su w wx M N b cb W T S B len ad cap f (layR R S)) ∧ Hid (Bx w wx nb 0 0 N b cb ∧ nb ≠ M ∧ ∀ q, u10.ownBlock = some q → q ≠ nb) ∧ Hid (Lr w wx u10 (starts 0 R) M N b cb))
        case first =>
          refine wp_region_noPanic ?_
          refine wp_region_held_drew (S := fun w' => HBox w' N W (S : Nat) (B : Nat) T (.slice (some ⟨cb, 0, none⟩) len len)) (by kernel_rfl) (G.out.sp.box) (fun hHeld => ?_)
          have DR := (Below.refl wr.heap.size wr).drew
          have G0 := Lib.hid (G.out.next DR)
          have E0 := Lib.hid (E.out.next DR)
          clear DR
          generalize wr.drew = z0 at *
          refine wpAnyH_take (i := 0) (v := .agg #[.int .i64 W, .int .i64 (S : Nat), .int .i64 (B : Nat), .int .i64 T, .slice (some ⟨cb, 0, none⟩) len len]) rfl (by kernel_rfl) (by kernel_rfl) (by kernel_rfl) (fun _ _ _ h => h) (Or.inl ⟨by rfl, fun w hSw => by have c0 := HBox.c0 hSw; have c1 := HBox.c1 hSw; have c2 := HBox.c2 hSw; have c3 := HBox.c3 hSw; have c4 := HBox.c4 hSw; go_simp⟩) (by assumption) ?_
          change wpAnyH _ _ _ _ _ _ _ (Act.put _ (some 44) _) _
          simp only [Act.put, List.setIfInBounds_toArray, List.set_cons_zero, List.set_cons_succ]
          refine wpAnyH_take (i := 1) (v := .slice (some ⟨b, 0, none⟩) (2 * S) (2 * S)) rfl (by kernel_rfl) (by kernel_rfl) (by kernel_rfl) (fun _ _ _ h => h) (Or.inl ⟨by rfl, fun w hSw => by have c0 := HBox.c0 hSw; have c1 := HBox.c1 hSw; have c2 := HBox.c2 hSw; have c3 := HBox.c3 hSw; have c4 := HBox.c4 hSw; go_simp⟩) (by assumption) ?_
          change wpAnyH _ _ _ _ _ _ _ (Act.put _ (some 45) _) _
          simp only [Act.put, List.setIfInBounds_toArray, List.set_cons_zero, List.set_cons_succ]
          refine wpAnyH_take (i := 2) (v := .int .i64 (1 + (r : Int))) rfl (by kernel_rfl) (by kernel_rfl) (by kernel_rfl) (fun _ _ _ h => h) (Or.inl ⟨by rfl, fun w hSw => by have c0 := HBox.c0 hSw; have c1 := HBox.c1 hSw; have c2 := HBox.c2 hSw; have c3 := HBox.c3 hSw; have c4 := HBox.c4 hSw; go_simp⟩) (by assumption) ?_
          change wpAnyH _ _ _ _ _ _ _ (Act.put _ (some 46) _) _
          simp only [Act.put, List.setIfInBounds_toArray, List.set_cons_zero, List.set_cons_succ]
          refine wpAnyH_ready (rs := [3, 5]) (by kernel_rfl) (by simp) ?_
          refine AllReadyH.cons rfl (fun K hK => ?_) (AllReadyH.cons rfl (fun K hK => ?_) (AllReadyH.nil))
          · refine step_enter (F := 26) (vals := #[.int .i64 (1 + (r : Int))]) rfl (by kernel_rfl) ?_
            refine (TK.out _ G0.out.sp.fl).mono ?_
            rintro e y2 ⟨rfl, hb⟩
            have G2 := Lib.hid (G0.out.next hb)
            have E2 := Lib.hid (E0.out.next hb)
            clear hb
            show K (Act.put _ (some 47) _) y2
            refine hK.out _ _ (G2.out.sp.box) (fun _ => ?_)
            clear hK K
            refine wpAnyH_ready (rs := [4, 5]) (by kernel_rfl) (by simp) ?_
            refine AllReadyH.cons rfl (fun K hK => ?_) (AllReadyH.cons rfl (fun K hK => ?_) (AllReadyH.nil))
            · refine step_enter (F := 21) (vals := #[.agg #[.int .i64 W, .int .i64 (S : Nat), .int .i64 (B : Nat), .int .i64 T, .slice (some ⟨cb, 0, none⟩) len len], .slice (some ⟨b, 0, none⟩) (2 * S) (2 * S), .agg #[.int .u64 (AQ : Nat), .int .u64 0]]) rfl (by kernel_rfl) ?_
              refine (AP.out _ G2.out).mono ?_
              rintro e y4 ⟨rfl, hg, ho⟩
              have G4 := Lib.hid hg
              have E4 := Lib.hid (E2.out.stayB ho)
              clear hg ho
              show K (Act.put _ (some 48) _) y4
              refine hK.out _ _ (G4.out.sp.box) (fun _ => ?_)
              clear hK K
              refine wpAnyH_ready (rs := [5]) (by kernel_rfl) (by simp) ?_
              refine AllReadyH.cons rfl (fun K hK => ?_) (AllReadyH.nil)
              · refine step_value (v := .pointer (some ⟨y4.heap.size, 0, none⟩)) (w' := y4.alloc (.cells #[.int .u64 0, .int .u64 0] 37)) rfl (by kernel_rfl) ?_
                have hb := box1 y4 (.cells #[.int .u64 0, .int .u64 0] 37)
                have G6 := Lib.hid (G4.out.next hb)
                have X6 : Hid (Bx w (y4.alloc (.cells #[.int .u64 0, .int .u64 0] 37)) y4.heap.size 0 0 N b cb ∧ y4.heap.size ≠ M ∧ ∀ q, u10.ownBlock = some q → q ≠ y4.heap.size) := ⟨G4.out.alloc.1, G4.out.alloc.2, E4.out.far⟩
                have E6 := Lib.hid (E4.out.next hb)
                clear hb
                generalize y4.alloc (.cells #[.int .u64 0, .int .u64 0] 37) = y6 at *
                generalize y4.heap.size = nb at *
                show K (Act.put _ (some 14) _) y6
                refine hK.out _ _ (G6.out.sp.box) (fun _ => ?_)
                clear hK K
                refine wpAnyH_ready (rs := [6]) (by kernel_rfl) (by simp) ?_
                refine AllReadyH.cons rfl (fun K hK => ?_) AllReadyH.nil
                have z0 := X6.out.1.op.z0
                have z1 := X6.out.1.op.z1
                have f0 := frozen_of (j := 0) X6.out.1.op
                have f1 := frozen_of (j := 1) X6.out.1.op
                have nn := X6.out.1.ne
                have nM := X6.out.2.1
                have nX := X6.out.2.2
                have OO := only_op (w := y6) (n := nb) (.int .u64 (0 : Nat)) (.int .u64 (0 : Nat))
                have GZ := Lib.hid (G6.out.stay OO (by simp; omega))
                have XZ : Hid (Bx w _ nb (0) (0) N b cb ∧ nb ≠ M ∧ ∀ q, u10.ownBlock = some q → q ≠ nb) := ⟨⟨X6.out.1.op.set (0) (0), nn⟩, nM, nX⟩
                have EZ := Lib.hid (E6.out.stay OO nX)
                go_simp
                refine hK.out _ _ (GZ.out.sp.box) (fun _ => ?_)
                refine ⟨by kernel_rfl, ?_⟩
                refine NoPanic.normal ?_
                go_wp2_with fail
                go_meet
                case rel => exact ⟨nb, rfl, GZ, XZ, EZ⟩

            · refine step_value (v := .pointer (some ⟨y2.heap.size, 0, none⟩)) (w' := y2.alloc (.cells #[.int .u64 0, .int .u64 0] 37)) rfl (by kernel_rfl) ?_
              have hb := box1 y2 (.cells #[.int .u64 0, .int .u64 0] 37)
              have G8 := Lib.hid (G2.out.next hb)
              have X8 : Hid (Bx w (y2.alloc (.cells #[.int .u64 0, .int .u64 0] 37)) y2.heap.size 0 0 N b cb ∧ y2.heap.size ≠ M ∧ ∀ q, u10.ownBlock = some q → q ≠ y2.heap.size) := ⟨G2.out.alloc.1, G2.out.alloc.2, E2.out.far⟩
              have E8 := Lib.hid (E2.out.next hb)
              clear hb
              generalize y2.alloc (.cells #[.int .u64 0, .int .u64 0] 37) = y8 at *
              generalize y2.heap.size = nb at *
              show K (Act.put _ (some 14) _) y8
              refine hK.out _ _ (G8.out.sp.box) (fun _ => ?_)
              clear hK K
              refine wpAnyH_ready (rs := [4]) (by kernel_rfl) (by simp) ?_
              refine AllReadyH.cons rfl (fun K hK => ?_) (AllReadyH.nil)
              · refine step_enter (F := 21) (vals := #[.agg #[.int .i64 W, .int .i64 (S : Nat), .int .i64 (B : Nat), .int .i64 T, .slice (some ⟨cb, 0, none⟩) len len], .slice (some ⟨b, 0, none⟩) (2 * S) (2 * S), .agg #[.int .u64 (AQ : Nat), .int .u64 0]]) rfl (by kernel_rfl) ?_
                refine (AP.out _ G8.out).mono ?_
                rintro e y10 ⟨rfl, hg, ho⟩
                have G10 := Lib.hid hg
                have nn := X8.out.1.ne
                have X10 : Hid (Bx w y10 nb 0 0 N b cb ∧ nb ≠ M ∧ ∀ q, u10.ownBlock = some q → q ≠ nb) := ⟨X8.out.1.stay ho (by simp; omega), X8.out.2⟩
                have E10 := Lib.hid (E8.out.stayB ho)
                clear hg ho
                show K (Act.put _ (some 48) _) y10
                refine hK.out _ _ (G10.out.sp.box) (fun _ => ?_)
                clear hK K
                refine wpAnyH_ready (rs := [6]) (by kernel_rfl) (by simp) ?_
                refine AllReadyH.cons rfl (fun K hK => ?_) AllReadyH.nil
                have z0 := X10.out.1.op.z0
                have z1 := X10.out.1.op.z1
                have f0 := frozen_of (j := 0) X10.out.1.op
                have f1 := frozen_of (j := 1) X10.out.1.op
                have nn := X10.out.1.ne
                have nM := X10.out.2.1
                have nX := X10.out.2.2
                have OO := only_op (w := y10) (n := nb) (.int .u64 (0 : Nat)) (.int .u64 (0 : Nat))
                have GZ := Lib.hid (G10.out.stay OO (by simp; omega))
                have XZ : Hid (Bx w _ nb (0) (0) N b cb ∧ nb ≠ M ∧ ∀ q, u10.ownBlock = some q → q ≠ nb) := ⟨⟨X10.out.1.op.set (0) (0), nn⟩, nM, nX⟩
                have EZ := Lib.hid (E10.out.stay OO nX)
                go_simp
                refine hK.out _ _ (GZ.out.sp.box) (fun _ => ?_)
                refine ⟨by kernel_rfl, ?_⟩
                refine NoPanic.normal ?_
                go_wp2_with fail
                go_meet
                case rel => exact ⟨nb, rfl, GZ, XZ, EZ⟩


          · refine step_value (v := .pointer (some ⟨z0.heap.size, 0, none⟩)) (w' := z0.alloc (.cells #[.int .u64 0, .int .u64 0] 37)) rfl (by kernel_rfl) ?_
            have hb := box1 z0 (.cells #[.int .u64 0, .int .u64 0] 37)
            have G12 := Lib.hid (G0.out.next hb)
            have X12 : Hid (Bx w (z0.alloc (.cells #[.int .u64 0, .int .u64 0] 37)) z0.heap.size 0 0 N b cb ∧ z0.heap.size ≠ M ∧ ∀ q, u10.ownBlock = some q → q ≠ z0.heap.size) := ⟨G0.out.alloc.1, G0.out.alloc.2, E0.out.far⟩
            have E12 := Lib.hid (E0.out.next hb)
            clear hb
            generalize z0.alloc (.cells #[.int .u64 0, .int .u64 0] 37) = y12 at *
            generalize z0.heap.size = nb at *
            show K (Act.put _ (some 14) _) y12
            refine hK.out _ _ (G12.out.sp.box) (fun _ => ?_)
            clear hK K
            refine wpAnyH_ready (rs := [3]) (by kernel_rfl) (by simp) ?_
            refine AllReadyH.cons rfl (fun K hK => ?_) (AllReadyH.nil)
            · refine step_enter (F := 26) (vals := #[.int .i64 (1 + (r : Int))]) rfl (by kernel_rfl) ?_
              refine (TK.out _ G12.out.sp.fl).mono ?_
              rintro e y14 ⟨rfl, hb⟩
              have G14 := Lib.hid (G12.out.next hb)
              have X14 : Hid (Bx w y14 nb 0 0 N b cb ∧ nb ≠ M ∧ ∀ q, u10.ownBlock = some q → q ≠ nb) := ⟨X12.out.1.next hb, X12.out.2⟩
              have E14 := Lib.hid (E12.out.next hb)
              clear hb
              show K (Act.put _ (some 47) _) y14
              refine hK.out _ _ (G14.out.sp.box) (fun _ => ?_)
              clear hK K
              refine wpAnyH_ready (rs := [4]) (by kernel_rfl) (by simp) ?_
              refine AllReadyH.cons rfl (fun K hK => ?_) (AllReadyH.nil)
              · refine step_enter (F := 21) (vals := #[.agg #[.int .i64 W, .int .i64 (S : Nat), .int .i64 (B : Nat), .int .i64 T, .slice (some ⟨cb, 0, none⟩) len len], .slice (some ⟨b, 0, none⟩) (2 * S) (2 * S), .agg #[.int .u64 (AQ : Nat), .int .u64 0]]) rfl (by kernel_rfl) ?_
                refine (AP.out _ G14.out).mono ?_
                rintro e y16 ⟨rfl, hg, ho⟩
                have G16 := Lib.hid hg
                have nn := X14.out.1.ne
                have X16 : Hid (Bx w y16 nb 0 0 N b cb ∧ nb ≠ M ∧ ∀ q, u10.ownBlock = some q → q ≠ nb) := ⟨X14.out.1.stay ho (by simp; omega), X14.out.2⟩
                have E16 := Lib.hid (E14.out.stayB ho)
                clear hg ho
                show K (Act.put _ (some 48) _) y16
                refine hK.out _ _ (G16.out.sp.box) (fun _ => ?_)
                clear hK K
                refine wpAnyH_ready (rs := [6]) (by kernel_rfl) (by simp) ?_
                refine AllReadyH.cons rfl (fun K hK => ?_) AllReadyH.nil
                have z0 := X16.out.1.op.z0
                have z1 := X16.out.1.op.z1
                have f0 := frozen_of (j := 0) X16.out.1.op
                have f1 := frozen_of (j := 1) X16.out.1.op
                have nn := X16.out.1.ne
                have nM := X16.out.2.1
                have nX := X16.out.2.2
                have OO := only_op (w := y16) (n := nb) (.int .u64 (0 : Nat)) (.int .u64 (0 : Nat))
                have GZ := Lib.hid (G16.out.stay OO (by simp; omega))
                have XZ : Hid (Bx w _ nb (0) (0) N b cb ∧ nb ≠ M ∧ ∀ q, u10.ownBlock = some q → q ≠ nb) := ⟨⟨X16.out.1.op.set (0) (0), nn⟩, nM, nX⟩
                have EZ := Lib.hid (E16.out.stay OO nX)
                go_simp
                refine hK.out _ _ (GZ.out.sp.box) (fun _ => ?_)
                refine ⟨by kernel_rfl, ?_⟩
                refine NoPanic.normal ?_
                go_wp2_with fail
                go_meet
                case rel => exact ⟨nb, rfl, GZ, XZ, EZ⟩



        case rest =>
          obtain ⟨nb, rfl, G2, X2, E2⟩ := hcut
          clear G E c0 c1 c2 c3 c4 d0 d1 d2 d3 d4 TK AP
          obtain ⟨c0, c1, c2, c3, c4⟩ := cfg_cells G2.out.cfg
          have e0 : _ = some (Value.int .u64 0) := X2.out.1.op.c0
          have e1 : _ = some (Value.int .u64 0) := X2.out.1.op.c1
          have g2 : (S : Int) < (sumR R : Int) + (1 + (r : Int)) := by omega
          have g3 : decide ((S : Int) < (sumR R : Int) + (1 + (r : Int))) = true := by simpa using g2
          go_wp2_with fail
          go_roundw
          case rel => exact ⟨k + 1, R, by omega, by push_cast; rfl, rfl, hsum, hR, G2, E2⟩
          case measure => simp [intOf]; omega
    · obtain rfl : k = n := by omega
      obtain ⟨va, vc, rfl⟩ := E.out.row.form
      rw [starts_len] at E
      rw [starts_len]
      cases tu
      · have hlR : R.length ≤ 64 := by have := len_sumR (fun x hx => (hR.out x hx).1); omega
        go_wp2_with fail
        go_loopw [74] (fun u74 wr => ∃ (i : Nat) (P Q : List (Nat × Bool)), i ≤ R.length ∧ u74 = .int .i64 (i : Nat) ∧ ((∀ x ∈ P, x.2 = true) ∧ (∀ x ∈ Q, x.2 = false) ∧ P.length = i) ∧ starts 0 (P ++ Q) = starts 0 R ∧ sumR (P ++ Q) ≤ S ∧ (∀ x ∈ P ++ Q, 1 ≤ x.1) ∧ (P ++ Q).length = R.length ∧ Hid (Su w wr M N b cb W T S B len ad cap f (layR (P ++ Q) S)) ∧ Hid (Lr w wr (.slice va R.length vc) (starts 0 R) M N b cb)) (fun u74 _ => R.length - (intOf u74).toNat)
        case atStart =>
          refine ⟨0, [], R, by omega, rfl, ⟨?_, ?_, rfl⟩, by simp, by simpa using hsum, ?_, by simp, by simpa using G, E⟩
          all_goals intro x hx; first | (simp at hx; done) | exact (hR.out x (by simpa using hx)).2 | exact (hR.out x (by simpa using hx)).1
        case round =>
          obtain ⟨i, P, Q, hi, rfl, ⟨hP, hQ, hPl⟩, hst, hsm, hon, hlen, G, E⟩ := hrel
          by_cases hlt : i < R.length
          · have l3 : (i : Int) < (R.length : Int) := by omega
            obtain ⟨y, Q1, rfl⟩ : ∃ y Q1, Q = y :: Q1 := by
              cases Q with
              | nil => simp at hlen; omega
              | cons y Q1 => exact ⟨y, Q1, rfl⟩
            obtain ⟨n0, fl⟩ := y
            obtain rfl : fl = false := hQ (n0, fl) (by simp)
            obtain ⟨P1, hP1⟩ : ∃ P1, P1 = P := ⟨_, rfl⟩
            have hK1 : P1.length = i := by rw [hP1]; exact hPl
            obtain ⟨Q2, hQ2⟩ : ∃ Q2, Q2 = Q1 := ⟨_, rfl⟩
            have hL1 : P ++ (n0, false) :: Q1 = P1 ++ (n0, false) :: Q2 := by rw [hP1, hQ2]
            have hon2 : ∀ x ∈ P1 ++ (n0, true) :: Q2, 1 ≤ x.1 := by
              intro x hx
              rcases List.mem_append.1 hx with h | h
              · exact hon x (by rw [hL1]; simp [h])
              · rcases List.mem_cons.1 h with h | h
                · subst h; exact hon (n0, false) (by rw [hL1]; simp)
                · exact hon x (by rw [hL1]; simp [h])
            rw [hL1] at G hsm hon hst
            have hat := starts_at 0 P1 Q2 (n0, false)
            rw [hst, hK1, Nat.zero_add] at hat
            have hsP : sumR P1 ≤ 64 := by rw [sumR_app] at hsm; omega
            have GL := give_lay hon hsm
            have GA := give_again hon2 (S := S)
            have hAQ : askA 4 ((sumR P1 : Nat) : Int) = 4 + 256 * sumR P1 ∧ askB ((sumR P1 : Nat) : Int) 0 = 0 := by
              unfold askA askB
              rw [if_pos (by omega), if_pos (by omega)]
              simp
            obtain ⟨AQ, hA1⟩ : ∃ AQ, 4 + 256 * sumR P1 = AQ := ⟨_, rfl⟩
            have GV : Hid (∀ y, FldAt y → Calls Tryd.prog 23 #[.int .i64 ((sumR P1 : Nat) : Int)] y fun e y' => e = .returned (.agg #[.int .u64 (AQ : Nat), .int .u64 0]) ∧ Below y.heap.size y y') := fun y h => by
              have := giveOp_any ((sumR P1 : Nat) : Int) y (by omega) (by omega) (Lib.hid h)
              rw [hAQ.1, hAQ.2, hA1] at this
              exact this
            have a1 : appP (capN len f) B (layR (P1 ++ (n0, false) :: Q2) S) (AQ, 0) = (layR (P1 ++ (n0, true) :: Q2) S, (1, 0)) := by
              rw [app4 (by omega) (by omega), show AQ / 256 = sumR P1 from by omega, GL]
            have a2 : appP (capN len f) B (layR (P1 ++ (n0, true) :: Q2) S) (AQ, 0) = (layR (P1 ++ (n0, true) :: Q2) S, (0, 0)) := by
              rw [app4 (by omega) (by omega), show AQ / 256 = sumR P1 from by omega, GA]
            have AP : Hid (∀ y, Su w y M N b cb W T S B len ad cap f (layR (P1 ++ (n0, false) :: Q2) S) → Calls Tryd.prog 21 #[.agg #[.int .i64 W, .int .i64 (S : Nat), .int .i64 (B : Nat), .int .i64 T, .slice (some ⟨cb, 0, none⟩) len len], .slice (some ⟨b, 0, none⟩) (2 * S) (2 * S), .agg #[.int .u64 (AQ : Nat), .int .u64 0]] y fun e y' => e = .returned (.agg #[.int .u64 1, .int .u64 0]) ∧ Su w y' M N b cb W T S B len ad cap f (layR (P1 ++ (n0, true) :: Q2) S) ∧ Only [b] y y') := fun y h => by
              have := h.apply (A := AQ) (D := 0) (c := 2 * S) (by omega) (by decide)
              rw [a1] at this
              exact this
            have AQ2 : Hid (∀ y, Su w y M N b cb W T S B len ad cap f (layR (P1 ++ (n0, true) :: Q2) S) → Calls Tryd.prog 21 #[.agg #[.int .i64 W, .int .i64 (S : Nat), .int .i64 (B : Nat), .int .i64 T, .slice (some ⟨cb, 0, none⟩) len len], .slice (some ⟨b, 0, none⟩) (2 * S) (2 * S), .agg #[.int .u64 (AQ : Nat), .int .u64 0]] y fun e y' => e = .returned (.agg #[.int .u64 0, .int .u64 0]) ∧ Su w y' M N b cb W T S B len ad cap f (layR (P1 ++ (n0, true) :: Q2) S) ∧ Only [b] y y') := fun y h => by
              have := h.apply (A := AQ) (D := 0) (c := 2 * S) (by omega) (by decide)
              rw [a2] at this
              exact this
            obtain ⟨vb, vcap, hv1, _, _⟩ := ORow.at intEnc E.out.row hat
            rw [starts_len] at hv1
            cases hv1
            have EC : Hid (∀ y, Lr w y (.slice (some ⟨vb, 0, none⟩) R.length vc) (starts 0 R) M N b cb → y.cell? ⟨vb, i, none⟩ = some (.int .i64 ((sumR P1 : Nat) : Int))) := fun y h => by
              obtain ⟨vb', c', h1, h2, _⟩ := ORow.at intEnc h.row hat
              rw [starts_len] at h1
              cases h1
              have := h2 0 _ rfl
              simpa using this
            clear a1 a2 GL GA hAQ hA1
            go_upto_region 26 with fail
            go_cut [105] (fun u105 wx => u105 = .bool false ∧ Hid (Su w wx M N b cb W T S B len ad cap f (layR (P1 ++ (n0, true) :: Q2) S)) ∧ Hid (Lr w wx (.slice (some ⟨vb, 0, none⟩) R.length vc) (starts 0 R) M N b cb))
            case first =>
              refine wp_region_noPanic ?_
              refine wp_region_held_drew (S := fun w' => HBox w' N W (S : Nat) (B : Nat) T (.slice (some ⟨cb, 0, none⟩) len len) ∧ w'.cell? ⟨vb, i, none⟩ = some (.int .i64 ((sumR P1 : Nat) : Int))) (by kernel_rfl) (⟨G.out.sp.box, EC.out _ (Lib.hid (E.out.next ((Below.refl _ _).drew))).out⟩) (fun hHeld => ?_)
              have DR := (Below.refl wr.heap.size wr).drew
              have G0 := Lib.hid (G.out.next DR)
              have E0 := Lib.hid (E.out.next DR)
              clear DR
              generalize wr.drew = z0 at *
              refine wpAnyH_take (i := 0) (v := .agg #[.int .i64 W, .int .i64 (S : Nat), .int .i64 (B : Nat), .int .i64 T, .slice (some ⟨cb, 0, none⟩) len len]) rfl (by kernel_rfl) (by kernel_rfl) (by kernel_rfl) (fun _ _ _ h => h) (Or.inl ⟨by rfl, fun w hSw => by obtain ⟨hB, hC⟩ := hSw; have c0 := HBox.c0 hB; have c1 := HBox.c1 hB; have c2 := HBox.c2 hB; have c3 := HBox.c3 hB; have c4 := HBox.c4 hB; first | (go_simp; done) | (go_simp; rfl) | rfl⟩) (by assumption) ?_
              change wpAnyH _ _ _ _ _ _ _ (Act.put _ (some 84) _) _
              simp only [Act.put, List.setIfInBounds_toArray, List.set_cons_zero, List.set_cons_succ]
              refine wpAnyH_take (i := 1) (v := .slice (some ⟨b, 0, none⟩) (2 * S) (2 * S)) rfl (by kernel_rfl) (by kernel_rfl) (by kernel_rfl) (fun _ _ _ h => h) (Or.inl ⟨by rfl, fun w hSw => by obtain ⟨hB, hC⟩ := hSw; have c0 := HBox.c0 hB; have c1 := HBox.c1 hB; have c2 := HBox.c2 hB; have c3 := HBox.c3 hB; have c4 := HBox.c4 hB; first | (go_simp; done) | (go_simp; rfl) | rfl⟩) (by assumption) ?_
              change wpAnyH _ _ _ _ _ _ _ (Act.put _ (some 85) _) _
              simp only [Act.put, List.setIfInBounds_toArray, List.set_cons_zero, List.set_cons_succ]
              refine wpAnyH_take (i := 2) (v := .slice (some ⟨vb, 0, none⟩) R.length vc) rfl (by kernel_rfl) (by kernel_rfl) (by kernel_rfl) (fun _ _ _ h => h) (Or.inl ⟨by rfl, fun w hSw => by obtain ⟨hB, hC⟩ := hSw; have c0 := HBox.c0 hB; have c1 := HBox.c1 hB; have c2 := HBox.c2 hB; have c3 := HBox.c3 hB; have c4 := HBox.c4 hB; first | (go_simp; done) | (go_simp; rfl) | rfl⟩) (by assumption) ?_
              change wpAnyH _ _ _ _ _ _ _ (Act.put _ (some 86) _) _
              simp only [Act.put, List.setIfInBounds_toArray, List.set_cons_zero, List.set_cons_succ]
              refine wpAnyH_take (i := 3) (v := .int .i64 (i : Int)) rfl (by kernel_rfl) (by kernel_rfl) (by kernel_rfl) (fun _ _ _ h => h) (Or.inl ⟨by rfl, fun w hSw => by obtain ⟨hB, hC⟩ := hSw; have c0 := HBox.c0 hB; have c1 := HBox.c1 hB; have c2 := HBox.c2 hB; have c3 := HBox.c3 hB; have c4 := HBox.c4 hB; first | (go_simp; done) | (go_simp; rfl) | rfl⟩) (by assumption) ?_
              change wpAnyH _ _ _ _ _ _ _ (Act.put _ (some 87) _) _
              simp only [Act.put, List.setIfInBounds_toArray, List.set_cons_zero, List.set_cons_succ]
              refine wpAnyH_take (i := 4) (v := .pointer (some ⟨vb, i, none⟩)) rfl (by kernel_rfl) (by kernel_rfl) (by kernel_rfl) (fun _ _ _ h => h) (Or.inl ⟨by rfl, fun w hSw => by obtain ⟨hB, hC⟩ := hSw; have c0 := HBox.c0 hB; have c1 := HBox.c1 hB; have c2 := HBox.c2 hB; have c3 := HBox.c3 hB; have c4 := HBox.c4 hB; first | (go_simp; done) | (go_simp; rfl) | rfl⟩) (by assumption) ?_
              change wpAnyH _ _ _ _ _ _ _ (Act.put _ (some 88) _) _
              simp only [Act.put, List.setIfInBounds_toArray, List.set_cons_zero, List.set_cons_succ]
              refine wpAnyH_take (i := 5) (v := .int .i64 ((sumR P1 : Nat) : Int)) rfl (by kernel_rfl) (by kernel_rfl) (by kernel_rfl) (fun _ _ _ h => h) (Or.inl ⟨by rfl, fun w hSw => by obtain ⟨hB, hC⟩ := hSw; have c0 := HBox.c0 hB; have c1 := HBox.c1 hB; have c2 := HBox.c2 hB; have c3 := HBox.c3 hB; have c4 := HBox.c4 hB; first | (go_simp; done) | (go_simp; rfl) | rfl⟩) (by assumption) ?_
              change wpAnyH _ _ _ _ _ _ _ (Act.put _ (some 89) _) _
              simp only [Act.put, List.setIfInBounds_toArray, List.set_cons_zero, List.set_cons_succ]
              refine wpAnyH_ready (rs := [6]) (by kernel_rfl) (by simp) ?_
              refine AllReadyH.cons rfl (fun K hK => ?_) AllReadyH.nil
              refine step_enter (F := 23) (vals := #[.int .i64 ((sumR P1 : Nat) : Int)]) rfl (by kernel_rfl) ?_
              refine (GV.out _ G0.out.sp.fl).mono ?_
              rintro e z1 ⟨rfl, hb⟩
              have G1 := Lib.hid (G0.out.next hb)
              have E1 := Lib.hid (E0.out.next hb)
              clear hb
              show K (Act.put _ (some 90) _) z1
              refine hK.out _ _ (⟨G1.out.sp.box, EC.out _ E1.out⟩) (fun hHeld1 => ?_)
              clear hK K
              simp only [Act.put, List.setIfInBounds_toArray, List.set_cons_zero, List.set_cons_succ]
              refine wpAnyH_ready (rs := [7]) (by kernel_rfl) (by simp) ?_
              refine AllReadyH.cons rfl (fun K hK => ?_) AllReadyH.nil
              refine step_enter (F := 21) (vals := #[.agg #[.int .i64 W, .int .i64 (S : Nat), .int .i64 (B : Nat), .int .i64 T, .slice (some ⟨cb, 0, none⟩) len len], .slice (some ⟨b, 0, none⟩) (2 * S) (2 * S), .agg #[.int .u64 (AQ : Nat), .int .u64 0]]) rfl (by kernel_rfl) ?_
              refine (AP.out _ G1.out).mono ?_
              rintro e z2 ⟨rfl, hg, ho⟩
              have G2 := Lib.hid hg
              have E2 := Lib.hid (E1.out.stayB ho)
              clear hg ho
              show K (Act.put _ (some 91) _) z2
              refine hK.out _ _ (⟨G2.out.sp.box, EC.out _ E2.out⟩) (fun hHeld2 => ?_)
              clear hK K
              simp only [Act.put, List.setIfInBounds_toArray, List.set_cons_zero, List.set_cons_succ]
              refine wpAnyH_take (i := 8) (v := .int .u64 1) rfl (by kernel_rfl) (by kernel_rfl) (by kernel_rfl) (fun _ _ _ h => h) (Or.inl ⟨by rfl, fun w hSw => by obtain ⟨hB, hC⟩ := hSw; have c0 := HBox.c0 hB; have c1 := HBox.c1 hB; have c2 := HBox.c2 hB; have c3 := HBox.c3 hB; have c4 := HBox.c4 hB; first | (go_simp; done) | (go_simp; rfl) | rfl⟩) (by assumption) ?_
              change wpAnyH _ _ _ _ _ _ _ (Act.put _ (some 92) _) _
              simp only [Act.put, List.setIfInBounds_toArray, List.set_cons_zero, List.set_cons_succ]
              refine wpAnyH_take (i := 9) (v := .bool false) rfl (by kernel_rfl) (by kernel_rfl) (by kernel_rfl) (fun _ _ _ h => h) (Or.inl ⟨by rfl, fun w hSw => by obtain ⟨hB, hC⟩ := hSw; have c0 := HBox.c0 hB; have c1 := HBox.c1 hB; have c2 := HBox.c2 hB; have c3 := HBox.c3 hB; have c4 := HBox.c4 hB; first | (go_simp; done) | (go_simp; rfl) | rfl⟩) (by assumption) ?_
              change wpAnyH _ _ _ _ _ _ _ (Act.put _ (some 93) _) _
              simp only [Act.put, List.setIfInBounds_toArray, List.set_cons_zero, List.set_cons_succ]
              refine wpAnyH_take (i := 10) (v := .bool false) rfl (by kernel_rfl) (by kernel_rfl) (by kernel_rfl) (fun _ _ _ h => h) (Or.inl ⟨by rfl, fun w hSw => by obtain ⟨hB, hC⟩ := hSw; have c0 := HBox.c0 hB; have c1 := HBox.c1 hB; have c2 := HBox.c2 hB; have c3 := HBox.c3 hB; have c4 := HBox.c4 hB; first | (go_simp; done) | (go_simp; rfl) | rfl⟩) (by assumption) ?_
              change wpAnyH _ _ _ _ _ _ _ (Act.put _ (some 94) _) _
              simp only [Act.put, List.setIfInBounds_toArray, List.set_cons_zero, List.set_cons_succ]
              refine wpAnyH_take (i := 11) (v := .agg #[.int .i64 W, .int .i64 (S : Nat), .int .i64 (B : Nat), .int .i64 T, .slice (some ⟨cb, 0, none⟩) len len]) rfl (by kernel_rfl) (by kernel_rfl) (by kernel_rfl) (fun _ _ _ h => h) (Or.inl ⟨by rfl, fun w hSw => by obtain ⟨hB, hC⟩ := hSw; have c0 := HBox.c0 hB; have c1 := HBox.c1 hB; have c2 := HBox.c2 hB; have c3 := HBox.c3 hB; have c4 := HBox.c4 hB; first | (go_simp; done) | (go_simp; rfl) | rfl⟩) (by assumption) ?_
              change wpAnyH _ _ _ _ _ _ _ (Act.put _ (some 95) _) _
              simp only [Act.put, List.setIfInBounds_toArray, List.set_cons_zero, List.set_cons_succ]
              refine wpAnyH_take (i := 12) (v := .slice (some ⟨b, 0, none⟩) (2 * S) (2 * S)) rfl (by kernel_rfl) (by kernel_rfl) (by kernel_rfl) (fun _ _ _ h => h) (Or.inl ⟨by rfl, fun w hSw => by obtain ⟨hB, hC⟩ := hSw; have c0 := HBox.c0 hB; have c1 := HBox.c1 hB; have c2 := HBox.c2 hB; have c3 := HBox.c3 hB; have c4 := HBox.c4 hB; first | (go_simp; done) | (go_simp; rfl) | rfl⟩) (by assumption) ?_
              change wpAnyH _ _ _ _ _ _ _ (Act.put _ (some 96) _) _
              simp only [Act.put, List.setIfInBounds_toArray, List.set_cons_zero, List.set_cons_succ]
              refine wpAnyH_take (i := 13) (v := .slice (some ⟨vb, 0, none⟩) R.length vc) rfl (by kernel_rfl) (by kernel_rfl) (by kernel_rfl) (fun _ _ _ h => h) (Or.inl ⟨by rfl, fun w hSw => by obtain ⟨hB, hC⟩ := hSw; have c0 := HBox.c0 hB; have c1 := HBox.c1 hB; have c2 := HBox.c2 hB; have c3 := HBox.c3 hB; have c4 := HBox.c4 hB; first | (go_simp; done) | (go_simp; rfl) | rfl⟩) (by assumption) ?_
              change wpAnyH _ _ _ _ _ _ _ (Act.put _ (some 97) _) _
              simp only [Act.put, List.setIfInBounds_toArray, List.set_cons_zero, List.set_cons_succ]
              refine wpAnyH_take (i := 14) (v := .int .i64 (i : Int)) rfl (by kernel_rfl) (by kernel_rfl) (by kernel_rfl) (fun _ _ _ h => h) (Or.inl ⟨by rfl, fun w hSw => by obtain ⟨hB, hC⟩ := hSw; have c0 := HBox.c0 hB; have c1 := HBox.c1 hB; have c2 := HBox.c2 hB; have c3 := HBox.c3 hB; have c4 := HBox.c4 hB; first | (go_simp; done) | (go_simp; rfl) | rfl⟩) (by assumption) ?_
              change wpAnyH _ _ _ _ _ _ _ (Act.put _ (some 98) _) _
              simp only [Act.put, List.setIfInBounds_toArray, List.set_cons_zero, List.set_cons_succ]
              refine wpAnyH_take (i := 15) (v := .pointer (some ⟨vb, i, none⟩)) rfl (by kernel_rfl) (by kernel_rfl) (by kernel_rfl) (fun _ _ _ h => h) (Or.inl ⟨by rfl, fun w hSw => by obtain ⟨hB, hC⟩ := hSw; have c0 := HBox.c0 hB; have c1 := HBox.c1 hB; have c2 := HBox.c2 hB; have c3 := HBox.c3 hB; have c4 := HBox.c4 hB; first | (go_simp; done) | (go_simp; rfl) | rfl⟩) (by assumption) ?_
              change wpAnyH _ _ _ _ _ _ _ (Act.put _ (some 99) _) _
              simp only [Act.put, List.setIfInBounds_toArray, List.set_cons_zero, List.set_cons_succ]
              refine wpAnyH_take (i := 16) (v := .int .i64 ((sumR P1 : Nat) : Int)) rfl (by kernel_rfl) (by kernel_rfl) (by kernel_rfl) (fun _ _ _ h => h) (Or.inl ⟨by rfl, fun w hSw => by obtain ⟨hB, hC⟩ := hSw; have c0 := HBox.c0 hB; have c1 := HBox.c1 hB; have c2 := HBox.c2 hB; have c3 := HBox.c3 hB; have c4 := HBox.c4 hB; first | (go_simp; done) | (go_simp; rfl) | rfl⟩) (by assumption) ?_
              change wpAnyH _ _ _ _ _ _ _ (Act.put _ (some 100) _) _
              simp only [Act.put, List.setIfInBounds_toArray, List.set_cons_zero, List.set_cons_succ]
              refine wpAnyH_ready (rs := [17]) (by kernel_rfl) (by simp) ?_
              refine AllReadyH.cons rfl (fun K hK => ?_) AllReadyH.nil
              refine step_enter (F := 23) (vals := #[.int .i64 ((sumR P1 : Nat) : Int)]) rfl (by kernel_rfl) ?_
              refine (GV.out _ G2.out.sp.fl).mono ?_
              rintro e z3 ⟨rfl, hb⟩
              have G3 := Lib.hid (G2.out.next hb)
              have E3 := Lib.hid (E2.out.next hb)
              clear hb
              show K (Act.put _ (some 101) _) z3
              refine hK.out _ _ (⟨G3.out.sp.box, EC.out _ E3.out⟩) (fun hHeld3 => ?_)
              clear hK K
              simp only [Act.put, List.setIfInBounds_toArray, List.set_cons_zero, List.set_cons_succ]
              refine wpAnyH_ready (rs := [18]) (by kernel_rfl) (by simp) ?_
              refine AllReadyH.cons rfl (fun K hK => ?_) AllReadyH.nil
              refine step_enter (F := 21) (vals := #[.agg #[.int .i64 W, .int .i64 (S : Nat), .int .i64 (B : Nat), .int .i64 T, .slice (some ⟨cb, 0, none⟩) len len], .slice (some ⟨b, 0, none⟩) (2 * S) (2 * S), .agg #[.int .u64 (AQ : Nat), .int .u64 0]]) rfl (by kernel_rfl) ?_
              refine (AQ2.out _ G3.out).mono ?_
              rintro e z4 ⟨rfl, hg, ho⟩
              have G4 := Lib.hid hg
              have E4 := Lib.hid (E3.out.stayB ho)
              clear hg ho
              show K (Act.put _ (some 102) _) z4
              refine hK.out _ _ (⟨G4.out.sp.box, EC.out _ E4.out⟩) (fun hHeld4 => ?_)
              clear hK K
              simp only [Act.put, List.setIfInBounds_toArray, List.set_cons_zero, List.set_cons_succ]
              refine wpAnyH_take (i := 19) (v := .int .u64 0) rfl (by kernel_rfl) (by kernel_rfl) (by kernel_rfl) (fun _ _ _ h => h) (Or.inl ⟨by rfl, fun w hSw => by obtain ⟨hB, hC⟩ := hSw; have c0 := HBox.c0 hB; have c1 := HBox.c1 hB; have c2 := HBox.c2 hB; have c3 := HBox.c3 hB; have c4 := HBox.c4 hB; first | (go_simp; done) | (go_simp; rfl) | rfl⟩) (by assumption) ?_
              change wpAnyH _ _ _ _ _ _ _ (Act.put _ (some 103) _) _
              simp only [Act.put, List.setIfInBounds_toArray, List.set_cons_zero, List.set_cons_succ]
              refine wpAnyH_take (i := 20) (v := .bool false) rfl (by kernel_rfl) (by kernel_rfl) (by kernel_rfl) (fun _ _ _ h => h) (Or.inl ⟨by rfl, fun w hSw => by obtain ⟨hB, hC⟩ := hSw; have c0 := HBox.c0 hB; have c1 := HBox.c1 hB; have c2 := HBox.c2 hB; have c3 := HBox.c3 hB; have c4 := HBox.c4 hB; first | (go_simp; done) | (go_simp; rfl) | rfl⟩) (by assumption) ?_
              change wpAnyH _ _ _ _ _ _ _ (Act.put _ (some 104) _) _
              simp only [Act.put, List.setIfInBounds_toArray, List.set_cons_zero, List.set_cons_succ]
              refine wpAnyH_take (i := 21) (v := .bool false) rfl (by kernel_rfl) (by kernel_rfl) (by kernel_rfl) (fun _ _ _ h => h) (Or.inl ⟨by rfl, fun w hSw => by obtain ⟨hB, hC⟩ := hSw; have c0 := HBox.c0 hB; have c1 := HBox.c1 hB; have c2 := HBox.c2 hB; have c3 := HBox.c3 hB; have c4 := HBox.c4 hB; first | (go_simp; done) | (go_simp; rfl) | rfl⟩) (by assumption) ?_
              change wpAnyH _ _ _ _ _ _ _ (Act.put _ (some 105) _) _
              simp only [Act.put, List.setIfInBounds_toArray, List.set_cons_zero, List.set_cons_succ]
              refine ⟨by kernel_rfl, ?_⟩
              refine NoPanic.normal ?_
              go_wp2_with fail
              go_meet
              case rel => exact ⟨rfl, G4, E4⟩
            case rest =>
              obtain ⟨rfl, G2, E2⟩ := hcut
              go_wp2_with fail
              go_roundw
              case rel =>
                subst hP1; subst hQ2
                refine ⟨i + 1, P1 ++ [(n0, true)], Q2, by omega, by push_cast; rfl, ⟨?_, fun x hx => hQ x (by simp [hx]), by simp; omega⟩, ?_, ?_, ?_, by simp only [List.length_append, List.length_cons, List.length_nil] at hlen ⊢; omega, ?_, E2⟩
                · intro x hx
                  rcases List.mem_append.1 hx with h | h
                  · exact hP x h
                  · simp at h; subst h; rfl
                all_goals rw [List.append_assoc, List.singleton_append]
                · exact (starts_flag 0 P1 Q2 n0 true false).trans hst
                · rw [sumR_flag P1 Q2 n0 true false]; exact hsm
                · exact hon2
                · exact G2
              case measure => simp [intOf]; omega
          · obtain rfl : i = R.length := by omega
            have hall : layR (P ++ Q) S = List.replicate S Sb.none := lay_all (by
              intro x hx
              rcases List.mem_append.1 hx with h | h
              · exact hP x h
              · have : Q = [] := List.length_eq_zero_iff.1 (by simp only [List.length_append] at hlen; omega)
                subst this; cases h) hsm
            rw [hall] at G
            obtain ⟨c0, c1, c2, c3, c4⟩ := cfg_cells G.out.cfg
            go_wp2_with fail
            refine (rnew11_any W T S B _ _ (by omega)).mono ?_
            rintro e wn ⟨vn, rfl, RN, hb⟩
            have RN' := Lib.hid RN
            have G2 := Lib.hid (G.out.next hb)
            have SM := same11_yes b (2 * S) vn (List.replicate S Sb.none) [] wn (Lib.hid G2.out.sp.hw) RN' (Lib.hid G2.out.sp.fl)
            rw [List.length_replicate] at SM
            have SM' := Lib.hid SM
            clear RN SM hb c0 c1 c2 c3 c4
            go_wp2_with fail
            refine SM'.out.mono ?_
            rintro e wz ⟨rfl, hb⟩
            have G3 := Lib.hid (G2.out.next hb)
            clear hb
            go_wp2_with fail
            go_ret
            exact ⟨rfl, G3.out.sp.be⟩

      · have hlR : R.length ≤ 64 := by have := len_sumR (fun x hx => (hR.out x hx).1); omega
        go_wp2_with fail
        go_loopw [74] (fun u74 wr => ∃ (i : Nat) (P Q : List (Nat × Bool)), i ≤ R.length ∧ u74 = .int .i64 (i : Nat) ∧ ((∀ x ∈ P, x.2 = false) ∧ (∀ x ∈ Q, x.2 = true) ∧ Q.length = i) ∧ starts 0 (P ++ Q) = starts 0 R ∧ sumR (P ++ Q) ≤ S ∧ (∀ x ∈ P ++ Q, 1 ≤ x.1) ∧ (P ++ Q).length = R.length ∧ Hid (Su w wr M N b cb W T S B len ad cap f (layR (P ++ Q) S)) ∧ Hid (Lr w wr (.slice va R.length vc) (starts 0 R) M N b cb)) (fun u74 _ => R.length - (intOf u74).toNat)
        case atStart =>
          refine ⟨0, R, [], by omega, rfl, ⟨?_, ?_, rfl⟩, by simp, by simpa using hsum, ?_, by simp, by simpa using G, E⟩
          all_goals intro x hx; first | (simp at hx; done) | exact (hR.out x (by simpa using hx)).2 | exact (hR.out x (by simpa using hx)).1
        case round =>
          obtain ⟨i, P, Q, hi, rfl, ⟨hP, hQ, hPl⟩, hst, hsm, hon, hlen, G, E⟩ := hrel
          by_cases hlt : i < R.length
          · have l3 : (i : Int) < (R.length : Int) := by omega
            obtain ⟨P1, y, rfl⟩ : ∃ P1 y, P = P1 ++ [y] := by
              rcases List.eq_nil_or_concat P with h | ⟨P1, y, h⟩
              · subst h; simp at hlen; omega
              · exact ⟨P1, y, by simpa using h⟩
            obtain ⟨n0, fl⟩ := y
            obtain rfl : fl = false := hP (n0, fl) (by simp)
            obtain ⟨kN, hkN, hkI⟩ : ∃ kN : Nat, R.length - 1 - i = kN ∧ (R.length : Int) - 1 - (i : Int) = (kN : Int) := ⟨R.length - 1 - i, rfl, by omega⟩
            have hk5 : (kN : Int) < (R.length : Int) := by omega
            have hK1 : P1.length = kN := by simp only [List.length_append, List.length_cons, List.length_nil] at hlen; omega
            obtain ⟨Q2, hQ2⟩ : ∃ Q2, Q2 = Q := ⟨_, rfl⟩
            have hL1 : (P1 ++ [(n0, false)]) ++ Q = P1 ++ (n0, false) :: Q2 := by rw [hQ2]; simp
            have hon2 : ∀ x ∈ P1 ++ (n0, true) :: Q2, 1 ≤ x.1 := by
              intro x hx
              rcases List.mem_append.1 hx with h | h
              · exact hon x (by rw [hL1]; simp [h])
              · rcases List.mem_cons.1 h with h | h
                · subst h; exact hon (n0, false) (by rw [hL1]; simp)
                · exact hon x (by rw [hL1]; simp [h])
            rw [hL1] at G hsm hon hst
            have hat := starts_at 0 P1 Q2 (n0, false)
            rw [hst, hK1, Nat.zero_add] at hat
            have hsP : sumR P1 ≤ 64 := by rw [sumR_app] at hsm; omega
            have GL := give_lay hon hsm
            have GA := give_again hon2 (S := S)
            have hAQ : askA 4 ((sumR P1 : Nat) : Int) = 4 + 256 * sumR P1 ∧ askB ((sumR P1 : Nat) : Int) 0 = 0 := by
              unfold askA askB
              rw [if_pos (by omega), if_pos (by omega)]
              simp
            obtain ⟨AQ, hA1⟩ : ∃ AQ, 4 + 256 * sumR P1 = AQ := ⟨_, rfl⟩
            have GV : Hid (∀ y, FldAt y → Calls Tryd.prog 23 #[.int .i64 ((sumR P1 : Nat) : Int)] y fun e y' => e = .returned (.agg #[.int .u64 (AQ : Nat), .int .u64 0]) ∧ Below y.heap.size y y') := fun y h => by
              have := giveOp_any ((sumR P1 : Nat) : Int) y (by omega) (by omega) (Lib.hid h)
              rw [hAQ.1, hAQ.2, hA1] at this
              exact this
            have a1 : appP (capN len f) B (layR (P1 ++ (n0, false) :: Q2) S) (AQ, 0) = (layR (P1 ++ (n0, true) :: Q2) S, (1, 0)) := by
              rw [app4 (by omega) (by omega), show AQ / 256 = sumR P1 from by omega, GL]
            have a2 : appP (capN len f) B (layR (P1 ++ (n0, true) :: Q2) S) (AQ, 0) = (layR (P1 ++ (n0, true) :: Q2) S, (0, 0)) := by
              rw [app4 (by omega) (by omega), show AQ / 256 = sumR P1 from by omega, GA]
            have AP : Hid (∀ y, Su w y M N b cb W T S B len ad cap f (layR (P1 ++ (n0, false) :: Q2) S) → Calls Tryd.prog 21 #[.agg #[.int .i64 W, .int .i64 (S : Nat), .int .i64 (B : Nat), .int .i64 T, .slice (some ⟨cb, 0, none⟩) len len], .slice (some ⟨b, 0, none⟩) (2 * S) (2 * S), .agg #[.int .u64 (AQ : Nat), .int .u64 0]] y fun e y' => e = .returned (.agg #[.int .u64 1, .int .u64 0]) ∧ Su w y' M N b cb W T S B len ad cap f (layR (P1 ++ (n0, true) :: Q2) S) ∧ Only [b] y y') := fun y h => by
              have := h.apply (A := AQ) (D := 0) (c := 2 * S) (by omega) (by decide)
              rw [a1] at this
              exact this
            have AQ2 : Hid (∀ y, Su w y M N b cb W T S B len ad cap f (layR (P1 ++ (n0, true) :: Q2) S) → Calls Tryd.prog 21 #[.agg #[.int .i64 W, .int .i64 (S : Nat), .int .i64 (B : Nat), .int .i64 T, .slice (some ⟨cb, 0, none⟩) len len], .slice (some ⟨b, 0, none⟩) (2 * S) (2 * S), .agg #[.int .u64 (AQ : Nat), .int .u64 0]] y fun e y' => e = .returned (.agg #[.int .u64 0, .int .u64 0]) ∧ Su w y' M N b cb W T S B len ad cap f (layR (P1 ++ (n0, true) :: Q2) S) ∧ Only [b] y y') := fun y h => by
              have := h.apply (A := AQ) (D := 0) (c := 2 * S) (by omega) (by decide)
              rw [a2] at this
              exact this
            obtain ⟨vb, vcap, hv1, _, _⟩ := ORow.at intEnc E.out.row hat
            rw [starts_len] at hv1
            cases hv1
            have EC : Hid (∀ y, Lr w y (.slice (some ⟨vb, 0, none⟩) R.length vc) (starts 0 R) M N b cb → y.cell? ⟨vb, kN, none⟩ = some (.int .i64 ((sumR P1 : Nat) : Int))) := fun y h => by
              obtain ⟨vb', c', h1, h2, _⟩ := ORow.at intEnc h.row hat
              rw [starts_len] at h1
              cases h1
              have := h2 0 _ rfl
              simpa using this
            clear a1 a2 GL GA hAQ hA1
            go_upto_region 26 with fail
            go_cut [105] (fun u105 wx => u105 = .bool false ∧ Hid (Su w wx M N b cb W T S B len ad cap f (layR (P1 ++ (n0, true) :: Q2) S)) ∧ Hid (Lr w wx (.slice (some ⟨vb, 0, none⟩) R.length vc) (starts 0 R) M N b cb))
            case first =>
              refine wp_region_noPanic ?_
              refine wp_region_held_drew (S := fun w' => HBox w' N W (S : Nat) (B : Nat) T (.slice (some ⟨cb, 0, none⟩) len len) ∧ w'.cell? ⟨vb, kN, none⟩ = some (.int .i64 ((sumR P1 : Nat) : Int))) (by kernel_rfl) (⟨G.out.sp.box, EC.out _ (Lib.hid (E.out.next ((Below.refl _ _).drew))).out⟩) (fun hHeld => ?_)
              have DR := (Below.refl wr.heap.size wr).drew
              have G0 := Lib.hid (G.out.next DR)
              have E0 := Lib.hid (E.out.next DR)
              clear DR
              generalize wr.drew = z0 at *
              refine wpAnyH_take (i := 0) (v := .agg #[.int .i64 W, .int .i64 (S : Nat), .int .i64 (B : Nat), .int .i64 T, .slice (some ⟨cb, 0, none⟩) len len]) rfl (by kernel_rfl) (by kernel_rfl) (by kernel_rfl) (fun _ _ _ h => h) (Or.inl ⟨by rfl, fun w hSw => by obtain ⟨hB, hC⟩ := hSw; have c0 := HBox.c0 hB; have c1 := HBox.c1 hB; have c2 := HBox.c2 hB; have c3 := HBox.c3 hB; have c4 := HBox.c4 hB; first | (go_simp; done) | (go_simp; rfl) | rfl⟩) (by assumption) ?_
              change wpAnyH _ _ _ _ _ _ _ (Act.put _ (some 84) _) _
              simp only [Act.put, List.setIfInBounds_toArray, List.set_cons_zero, List.set_cons_succ]
              refine wpAnyH_take (i := 1) (v := .slice (some ⟨b, 0, none⟩) (2 * S) (2 * S)) rfl (by kernel_rfl) (by kernel_rfl) (by kernel_rfl) (fun _ _ _ h => h) (Or.inl ⟨by rfl, fun w hSw => by obtain ⟨hB, hC⟩ := hSw; have c0 := HBox.c0 hB; have c1 := HBox.c1 hB; have c2 := HBox.c2 hB; have c3 := HBox.c3 hB; have c4 := HBox.c4 hB; first | (go_simp; done) | (go_simp; rfl) | rfl⟩) (by assumption) ?_
              change wpAnyH _ _ _ _ _ _ _ (Act.put _ (some 85) _) _
              simp only [Act.put, List.setIfInBounds_toArray, List.set_cons_zero, List.set_cons_succ]
              refine wpAnyH_take (i := 2) (v := .slice (some ⟨vb, 0, none⟩) R.length vc) rfl (by kernel_rfl) (by kernel_rfl) (by kernel_rfl) (fun _ _ _ h => h) (Or.inl ⟨by rfl, fun w hSw => by obtain ⟨hB, hC⟩ := hSw; have c0 := HBox.c0 hB; have c1 := HBox.c1 hB; have c2 := HBox.c2 hB; have c3 := HBox.c3 hB; have c4 := HBox.c4 hB; first | (go_simp; done) | (go_simp; rfl) | rfl⟩) (by assumption) ?_
              change wpAnyH _ _ _ _ _ _ _ (Act.put _ (some 86) _) _
              simp only [Act.put, List.setIfInBounds_toArray, List.set_cons_zero, List.set_cons_succ]
              refine wpAnyH_take (i := 3) (v := .int .i64 (kN : Int)) rfl (by kernel_rfl) (by kernel_rfl) (by kernel_rfl) (fun _ _ _ h => h) (Or.inl ⟨by rfl, fun w hSw => by obtain ⟨hB, hC⟩ := hSw; have c0 := HBox.c0 hB; have c1 := HBox.c1 hB; have c2 := HBox.c2 hB; have c3 := HBox.c3 hB; have c4 := HBox.c4 hB; first | (go_simp; done) | (go_simp; rfl) | rfl⟩) (by assumption) ?_
              change wpAnyH _ _ _ _ _ _ _ (Act.put _ (some 87) _) _
              simp only [Act.put, List.setIfInBounds_toArray, List.set_cons_zero, List.set_cons_succ]
              refine wpAnyH_take (i := 4) (v := .pointer (some ⟨vb, kN, none⟩)) rfl (by kernel_rfl) (by kernel_rfl) (by kernel_rfl) (fun _ _ _ h => h) (Or.inl ⟨by rfl, fun w hSw => by obtain ⟨hB, hC⟩ := hSw; have c0 := HBox.c0 hB; have c1 := HBox.c1 hB; have c2 := HBox.c2 hB; have c3 := HBox.c3 hB; have c4 := HBox.c4 hB; first | (go_simp; done) | (go_simp; rfl) | rfl⟩) (by assumption) ?_
              change wpAnyH _ _ _ _ _ _ _ (Act.put _ (some 88) _) _
              simp only [Act.put, List.setIfInBounds_toArray, List.set_cons_zero, List.set_cons_succ]
              refine wpAnyH_take (i := 5) (v := .int .i64 ((sumR P1 : Nat) : Int)) rfl (by kernel_rfl) (by kernel_rfl) (by kernel_rfl) (fun _ _ _ h => h) (Or.inl ⟨by rfl, fun w hSw => by obtain ⟨hB, hC⟩ := hSw; have c0 := HBox.c0 hB; have c1 := HBox.c1 hB; have c2 := HBox.c2 hB; have c3 := HBox.c3 hB; have c4 := HBox.c4 hB; first | (go_simp; done) | (go_simp; rfl) | rfl⟩) (by assumption) ?_
              change wpAnyH _ _ _ _ _ _ _ (Act.put _ (some 89) _) _
              simp only [Act.put, List.setIfInBounds_toArray, List.set_cons_zero, List.set_cons_succ]
              refine wpAnyH_ready (rs := [6]) (by kernel_rfl) (by simp) ?_
              refine AllReadyH.cons rfl (fun K hK => ?_) AllReadyH.nil
              refine step_enter (F := 23) (vals := #[.int .i64 ((sumR P1 : Nat) : Int)]) rfl (by kernel_rfl) ?_
              refine (GV.out _ G0.out.sp.fl).mono ?_
              rintro e z1 ⟨rfl, hb⟩
              have G1 := Lib.hid (G0.out.next hb)
              have E1 := Lib.hid (E0.out.next hb)
              clear hb
              show K (Act.put _ (some 90) _) z1
              refine hK.out _ _ (⟨G1.out.sp.box, EC.out _ E1.out⟩) (fun hHeld1 => ?_)
              clear hK K
              simp only [Act.put, List.setIfInBounds_toArray, List.set_cons_zero, List.set_cons_succ]
              refine wpAnyH_ready (rs := [7]) (by kernel_rfl) (by simp) ?_
              refine AllReadyH.cons rfl (fun K hK => ?_) AllReadyH.nil
              refine step_enter (F := 21) (vals := #[.agg #[.int .i64 W, .int .i64 (S : Nat), .int .i64 (B : Nat), .int .i64 T, .slice (some ⟨cb, 0, none⟩) len len], .slice (some ⟨b, 0, none⟩) (2 * S) (2 * S), .agg #[.int .u64 (AQ : Nat), .int .u64 0]]) rfl (by kernel_rfl) ?_
              refine (AP.out _ G1.out).mono ?_
              rintro e z2 ⟨rfl, hg, ho⟩
              have G2 := Lib.hid hg
              have E2 := Lib.hid (E1.out.stayB ho)
              clear hg ho
              show K (Act.put _ (some 91) _) z2
              refine hK.out _ _ (⟨G2.out.sp.box, EC.out _ E2.out⟩) (fun hHeld2 => ?_)
              clear hK K
              simp only [Act.put, List.setIfInBounds_toArray, List.set_cons_zero, List.set_cons_succ]
              refine wpAnyH_take (i := 8) (v := .int .u64 1) rfl (by kernel_rfl) (by kernel_rfl) (by kernel_rfl) (fun _ _ _ h => h) (Or.inl ⟨by rfl, fun w hSw => by obtain ⟨hB, hC⟩ := hSw; have c0 := HBox.c0 hB; have c1 := HBox.c1 hB; have c2 := HBox.c2 hB; have c3 := HBox.c3 hB; have c4 := HBox.c4 hB; first | (go_simp; done) | (go_simp; rfl) | rfl⟩) (by assumption) ?_
              change wpAnyH _ _ _ _ _ _ _ (Act.put _ (some 92) _) _
              simp only [Act.put, List.setIfInBounds_toArray, List.set_cons_zero, List.set_cons_succ]
              refine wpAnyH_take (i := 9) (v := .bool false) rfl (by kernel_rfl) (by kernel_rfl) (by kernel_rfl) (fun _ _ _ h => h) (Or.inl ⟨by rfl, fun w hSw => by obtain ⟨hB, hC⟩ := hSw; have c0 := HBox.c0 hB; have c1 := HBox.c1 hB; have c2 := HBox.c2 hB; have c3 := HBox.c3 hB; have c4 := HBox.c4 hB; first | (go_simp; done) | (go_simp; rfl) | rfl⟩) (by assumption) ?_
              change wpAnyH _ _ _ _ _ _ _ (Act.put _ (some 93) _) _
              simp only [Act.put, List.setIfInBounds_toArray, List.set_cons_zero, List.set_cons_succ]
              refine wpAnyH_take (i := 10) (v := .bool false) rfl (by kernel_rfl) (by kernel_rfl) (by kernel_rfl) (fun _ _ _ h => h) (Or.inl ⟨by rfl, fun w hSw => by obtain ⟨hB, hC⟩ := hSw; have c0 := HBox.c0 hB; have c1 := HBox.c1 hB; have c2 := HBox.c2 hB; have c3 := HBox.c3 hB; have c4 := HBox.c4 hB; first | (go_simp; done) | (go_simp; rfl) | rfl⟩) (by assumption) ?_
              change wpAnyH _ _ _ _ _ _ _ (Act.put _ (some 94) _) _
              simp only [Act.put, List.setIfInBounds_toArray, List.set_cons_zero, List.set_cons_succ]
              refine wpAnyH_take (i := 11) (v := .agg #[.int .i64 W, .int .i64 (S : Nat), .int .i64 (B : Nat), .int .i64 T, .slice (some ⟨cb, 0, none⟩) len len]) rfl (by kernel_rfl) (by kernel_rfl) (by kernel_rfl) (fun _ _ _ h => h) (Or.inl ⟨by rfl, fun w hSw => by obtain ⟨hB, hC⟩ := hSw; have c0 := HBox.c0 hB; have c1 := HBox.c1 hB; have c2 := HBox.c2 hB; have c3 := HBox.c3 hB; have c4 := HBox.c4 hB; first | (go_simp; done) | (go_simp; rfl) | rfl⟩) (by assumption) ?_
              change wpAnyH _ _ _ _ _ _ _ (Act.put _ (some 95) _) _
              simp only [Act.put, List.setIfInBounds_toArray, List.set_cons_zero, List.set_cons_succ]
              refine wpAnyH_take (i := 12) (v := .slice (some ⟨b, 0, none⟩) (2 * S) (2 * S)) rfl (by kernel_rfl) (by kernel_rfl) (by kernel_rfl) (fun _ _ _ h => h) (Or.inl ⟨by rfl, fun w hSw => by obtain ⟨hB, hC⟩ := hSw; have c0 := HBox.c0 hB; have c1 := HBox.c1 hB; have c2 := HBox.c2 hB; have c3 := HBox.c3 hB; have c4 := HBox.c4 hB; first | (go_simp; done) | (go_simp; rfl) | rfl⟩) (by assumption) ?_
              change wpAnyH _ _ _ _ _ _ _ (Act.put _ (some 96) _) _
              simp only [Act.put, List.setIfInBounds_toArray, List.set_cons_zero, List.set_cons_succ]
              refine wpAnyH_take (i := 13) (v := .slice (some ⟨vb, 0, none⟩) R.length vc) rfl (by kernel_rfl) (by kernel_rfl) (by kernel_rfl) (fun _ _ _ h => h) (Or.inl ⟨by rfl, fun w hSw => by obtain ⟨hB, hC⟩ := hSw; have c0 := HBox.c0 hB; have c1 := HBox.c1 hB; have c2 := HBox.c2 hB; have c3 := HBox.c3 hB; have c4 := HBox.c4 hB; first | (go_simp; done) | (go_simp; rfl) | rfl⟩) (by assumption) ?_
              change wpAnyH _ _ _ _ _ _ _ (Act.put _ (some 97) _) _
              simp only [Act.put, List.setIfInBounds_toArray, List.set_cons_zero, List.set_cons_succ]
              refine wpAnyH_take (i := 14) (v := .int .i64 (kN : Int)) rfl (by kernel_rfl) (by kernel_rfl) (by kernel_rfl) (fun _ _ _ h => h) (Or.inl ⟨by rfl, fun w hSw => by obtain ⟨hB, hC⟩ := hSw; have c0 := HBox.c0 hB; have c1 := HBox.c1 hB; have c2 := HBox.c2 hB; have c3 := HBox.c3 hB; have c4 := HBox.c4 hB; first | (go_simp; done) | (go_simp; rfl) | rfl⟩) (by assumption) ?_
              change wpAnyH _ _ _ _ _ _ _ (Act.put _ (some 98) _) _
              simp only [Act.put, List.setIfInBounds_toArray, List.set_cons_zero, List.set_cons_succ]
              refine wpAnyH_take (i := 15) (v := .pointer (some ⟨vb, kN, none⟩)) rfl (by kernel_rfl) (by kernel_rfl) (by kernel_rfl) (fun _ _ _ h => h) (Or.inl ⟨by rfl, fun w hSw => by obtain ⟨hB, hC⟩ := hSw; have c0 := HBox.c0 hB; have c1 := HBox.c1 hB; have c2 := HBox.c2 hB; have c3 := HBox.c3 hB; have c4 := HBox.c4 hB; first | (go_simp; done) | (go_simp; rfl) | rfl⟩) (by assumption) ?_
              change wpAnyH _ _ _ _ _ _ _ (Act.put _ (some 99) _) _
              simp only [Act.put, List.setIfInBounds_toArray, List.set_cons_zero, List.set_cons_succ]
              refine wpAnyH_take (i := 16) (v := .int .i64 ((sumR P1 : Nat) : Int)) rfl (by kernel_rfl) (by kernel_rfl) (by kernel_rfl) (fun _ _ _ h => h) (Or.inl ⟨by rfl, fun w hSw => by obtain ⟨hB, hC⟩ := hSw; have c0 := HBox.c0 hB; have c1 := HBox.c1 hB; have c2 := HBox.c2 hB; have c3 := HBox.c3 hB; have c4 := HBox.c4 hB; first | (go_simp; done) | (go_simp; rfl) | rfl⟩) (by assumption) ?_
              change wpAnyH _ _ _ _ _ _ _ (Act.put _ (some 100) _) _
              simp only [Act.put, List.setIfInBounds_toArray, List.set_cons_zero, List.set_cons_succ]
              refine wpAnyH_ready (rs := [17]) (by kernel_rfl) (by simp) ?_
              refine AllReadyH.cons rfl (fun K hK => ?_) AllReadyH.nil
              refine step_enter (F := 23) (vals := #[.int .i64 ((sumR P1 : Nat) : Int)]) rfl (by kernel_rfl) ?_
              refine (GV.out _ G2.out.sp.fl).mono ?_
              rintro e z3 ⟨rfl, hb⟩
              have G3 := Lib.hid (G2.out.next hb)
              have E3 := Lib.hid (E2.out.next hb)
              clear hb
              show K (Act.put _ (some 101) _) z3
              refine hK.out _ _ (⟨G3.out.sp.box, EC.out _ E3.out⟩) (fun hHeld3 => ?_)
              clear hK K
              simp only [Act.put, List.setIfInBounds_toArray, List.set_cons_zero, List.set_cons_succ]
              refine wpAnyH_ready (rs := [18]) (by kernel_rfl) (by simp) ?_
              refine AllReadyH.cons rfl (fun K hK => ?_) AllReadyH.nil
              refine step_enter (F := 21) (vals := #[.agg #[.int .i64 W, .int .i64 (S : Nat), .int .i64 (B : Nat), .int .i64 T, .slice (some ⟨cb, 0, none⟩) len len], .slice (some ⟨b, 0, none⟩) (2 * S) (2 * S), .agg #[.int .u64 (AQ : Nat), .int .u64 0]]) rfl (by kernel_rfl) ?_
              refine (AQ2.out _ G3.out).mono ?_
              rintro e z4 ⟨rfl, hg, ho⟩
              have G4 := Lib.hid hg
              have E4 := Lib.hid (E3.out.stayB ho)
              clear hg ho
              show K (Act.put _ (some 102) _) z4
              refine hK.out _ _ (⟨G4.out.sp.box, EC.out _ E4.out⟩) (fun hHeld4 => ?_)
              clear hK K
              simp only [Act.put, List.setIfInBounds_toArray, List.set_cons_zero, List.set_cons_succ]
              refine wpAnyH_take (i := 19) (v := .int .u64 0) rfl (by kernel_rfl) (by kernel_rfl) (by kernel_rfl) (fun _ _ _ h => h) (Or.inl ⟨by rfl, fun w hSw => by obtain ⟨hB, hC⟩ := hSw; have c0 := HBox.c0 hB; have c1 := HBox.c1 hB; have c2 := HBox.c2 hB; have c3 := HBox.c3 hB; have c4 := HBox.c4 hB; first | (go_simp; done) | (go_simp; rfl) | rfl⟩) (by assumption) ?_
              change wpAnyH _ _ _ _ _ _ _ (Act.put _ (some 103) _) _
              simp only [Act.put, List.setIfInBounds_toArray, List.set_cons_zero, List.set_cons_succ]
              refine wpAnyH_take (i := 20) (v := .bool false) rfl (by kernel_rfl) (by kernel_rfl) (by kernel_rfl) (fun _ _ _ h => h) (Or.inl ⟨by rfl, fun w hSw => by obtain ⟨hB, hC⟩ := hSw; have c0 := HBox.c0 hB; have c1 := HBox.c1 hB; have c2 := HBox.c2 hB; have c3 := HBox.c3 hB; have c4 := HBox.c4 hB; first | (go_simp; done) | (go_simp; rfl) | rfl⟩) (by assumption) ?_
              change wpAnyH _ _ _ _ _ _ _ (Act.put _ (some 104) _) _
              simp only [Act.put, List.setIfInBounds_toArray, List.set_cons_zero, List.set_cons_succ]
              refine wpAnyH_take (i := 21) (v := .bool false) rfl (by kernel_rfl) (by kernel_rfl) (by kernel_rfl) (fun _ _ _ h => h) (Or.inl ⟨by rfl, fun w hSw => by obtain ⟨hB, hC⟩ := hSw; have c0 := HBox.c0 hB; have c1 := HBox.c1 hB; have c2 := HBox.c2 hB; have c3 := HBox.c3 hB; have c4 := HBox.c4 hB; first | (go_simp; done) | (go_simp; rfl) | rfl⟩) (by assumption) ?_
              change wpAnyH _ _ _ _ _ _ _ (Act.put _ (some 105) _) _
              simp only [Act.put, List.setIfInBounds_toArray, List.set_cons_zero, List.set_cons_succ]
              refine ⟨by kernel_rfl, ?_⟩
              refine NoPanic.normal ?_
              go_wp2_with fail
              go_meet
              case rel => exact ⟨rfl, G4, E4⟩
            case rest =>
              obtain ⟨rfl, G2, E2⟩ := hcut
              go_wp2_with fail
              go_roundw
              case rel =>
                subst hQ2
                refine ⟨i + 1, P1, (n0, true) :: Q2, by omega, by push_cast; rfl, ⟨fun x hx => hP x (by simp [hx]), ?_, by simp; omega⟩, ?_, ?_, ?_, by simp only [List.length_append, List.length_cons, List.length_nil] at hlen ⊢; omega, ?_, E2⟩
                · intro x hx
                  rcases List.mem_cons.1 hx with h | h
                  · subst h; rfl
                  · exact hQ x h
                · exact (starts_flag 0 P1 Q2 n0 true false).trans hst
                · rw [sumR_flag P1 Q2 n0 true false]; exact hsm
                · exact hon2
                · exact G2
              case measure => simp [intOf]; omega
          · obtain rfl : i = R.length := by omega
            have hall : layR (P ++ Q) S = List.replicate S Sb.none := lay_all (by
              intro x hx
              rcases List.mem_append.1 hx with h | h
              · have : P = [] := List.length_eq_zero_iff.1 (by simp only [List.length_append] at hlen; omega)
                subst this; cases h
              · exact hQ x h) hsm
            rw [hall] at G
            obtain ⟨c0, c1, c2, c3, c4⟩ := cfg_cells G.out.cfg
            go_wp2_with fail
            refine (rnew11_any W T S B _ _ (by omega)).mono ?_
            rintro e wn ⟨vn, rfl, RN, hb⟩
            have RN' := Lib.hid RN
            have G2 := Lib.hid (G.out.next hb)
            have SM := same11_yes b (2 * S) vn (List.replicate S Sb.none) [] wn (Lib.hid G2.out.sp.hw) RN' (Lib.hid G2.out.sp.fl)
            rw [List.length_replicate] at SM
            have SM' := Lib.hid SM
            clear RN SM hb c0 c1 c2 c3 c4
            go_wp2_with fail
            refine SM'.out.mono ?_
            rintro e wz ⟨rfl, hb⟩
            have G3 := Lib.hid (G2.out.next hb)
            clear hb
            go_wp2_with fail
            go_ret
            exact ⟨rfl, G3.out.sp.be⟩


set_option maxRecDepth 20000 in
set_option maxHeartbeats 4000000 in
theorem hruns_no (W S B T : Int) (ad : Option Addr) (len cap : Nat) (f : Nat → Int) (a : Option Addr) (n c : Nat) (tu : Bool) (w : World) (hr : Hid (RowI w ad len f)) (hl : len < 9223372036854775808) (hF : Hid (FldAt w)) (hm : Hid (mayB W S B T len f = false)) :
    Calls Tryd.prog 7 #[.agg #[.int .i64 W, .int .i64 S, .int .i64 B, .int .i64 T, .slice ad len cap], .slice a n c, .bool tu] w fun e w' => e = .returned (.bool true) ∧ Below w.heap.size w w' := by
  have K0 : Hid (Ar w (w.alloc (.cells #[.int .i64 W, .int .i64 S, .int .i64 B, .int .i64 T, .slice ad len cap] 24)) w.heap.size W S B T ad len cap f) := Ar.start hr.out
  have F0 := Lib.hid (hF.out.next (box1 w (.cells #[.int .i64 W, .int .i64 S, .int .i64 B, .int .i64 T, .slice ad len cap] 24)))
  go_enter Tryd.func7, Tryd.ntmps7
  go_wp2_with fail
  generalize w.alloc (.cells #[.int .i64 W, .int .i64 S, .int .i64 B, .int .i64 T, .slice ad len cap] 24) = w0 at *
  generalize hM : w.heap.size = M at *
  refine (speaks11 _ F0).mono ?_
  rintro e wa ⟨rfl, hb⟩
  have K1 := Lib.hid (K0.out.next hb)
  clear hb K0 F0
  obtain ⟨c0, c1, c2, c3, c4⟩ := cfg_cells K1.out.c
  go_wp2_with fail
  refine (rmay_any W S B T ad len cap f _ (Lib.hid K1.out.r) hl).mono ?_
  rintro e wb ⟨he, hb⟩
  obtain rfl : e = .returned (.bool false) := by rw [he, hm.out]
  have K2 := Lib.hid (K1.out.next hb)
  clear hb K1 c0 c1 c2 c3 c4 he
  go_wp2_with fail
  go_ret
  exact ⟨rfl, by rw [hM]; exact K2.out.b⟩

theorem hruns_walk (W S B T : Int) (ad : Option Addr) (len cap : Nat) (f : Nat → Int) (a : Option Addr) (n c : Nat) (g : Nat → Nat) (tu : Bool) (w : World) (hr : RowI w ad len f) (hl : len < 9223372036854775808) (hz : RowU w a n g) (hn : n < 9223372036854775808) (hF : FldAt w) :
    Calls Tryd.prog 7 #[.agg #[.int .i64 W, .int .i64 S, .int .i64 B, .int .i64 T, .slice ad len cap], .slice a n c, .bool tu] w fun e w' => e = .returned (.bool true) ∧ Below w.heap.size w w' := by
  rcases h : mayB W S B T len f with _ | _
  · exact hruns_no W S B T ad len cap f a n c tu w hr hl hF h
  · obtain ⟨_, ⟨s1, _⟩, ⟨b1, _⟩, _⟩ := may_nums h
    obtain ⟨S, rfl⟩ := Int.eq_ofNat_of_zero_le (show 0 ≤ S by omega)
    obtain ⟨B, rfl⟩ := Int.eq_ofNat_of_zero_le (show 0 ≤ B by omega)
    by_cases h2 : n ≤ 100
    · exact hruns_yes W T S B ad len cap f a n c g tu w hr hl hz hn hF h h2
    · exact hruns_many W T S B ad len cap f a n c tu w hr hl hn hF h (by omega)
end Go.Proofs.YtcgjmigdpilgpaaDoor
