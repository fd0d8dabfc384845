/-
  The walk of HeartKeeps: blocks that were answered, and didn't come back, and those that are free, are all blocks of their superblocks, each once; each run that was answered is one, until it is given back.
-/
import Derived.Test.YtkogeeaoppkhkaaDoorHeartKQ
import Derived.Test.YtkogeeaoppkhkaaDoorRowOwnI
import Derived.Deep.CutBlock
import Derived.Test.YtkogeeaoppkhkaaDoorHeart9
namespace Go.Proofs.YtkogeeaoppkhkaaDoor
open Go.RowKit Go.Sort Go.Shelf

set_option maxRecDepth 20000 in
set_option maxHeartbeats 64000000 in
theorem hkeeps_yes (W T : Int) (S B : Nat) (ad : Option Addr) (len cap : Nat) (f : Nat → Int) (aa : Option Addr) (n0 c : Nat) (Q : Nat → Qk) (w : World) (hr : Hid (RowI w ad len f)) (hl : len < 9223372036854775808) (hF : Hid (FldAt w)) (hm : Hid (mayB W (S : Nat) (B : Nat) T len f = true)) (hz : Hid (RowK w aa n0 Q)) (hn : n0 ≤ 100) :
    Calls Tryd.prog 5 #[.agg #[.int .i64 W, .int .i64 (S : Nat), .int .i64 (B : Nat), .int .i64 T, .slice ad len cap], .slice aa n0 c] w fun e w' => e = .returned (.bool true) ∧ Below w.heap.size w w' := by
  have K0 : Hid (Ar w (w.alloc (.cells #[.int .i64 W, .int .i64 (S : Nat), .int .i64 (B : Nat), .int .i64 T, .slice ad len cap] 24)) w.heap.size W (S : Nat) (B : Nat) T ad len cap f) := Ar.start hr.out
  have F0 := Lib.hid (hF.out.next (box1 w (.cells #[.int .i64 W, .int .i64 (S : Nat), .int .i64 (B : Nat), .int .i64 T, .slice ad len cap] 24)))
  obtain ⟨⟨w1, w2⟩, ⟨s1, s2⟩, ⟨b1, b2⟩, ⟨t1, t2⟩, ⟨l1, l2⟩, hcls⟩ := may_nums hm.out
  have OK := Lib.hid (cls_ok hcls)
  clear hcls w1 w2 t1 t2
  have L3 : 3 ≤ w.heap.size := hF.out.tab.lt
  go_enter Tryd.func5, Tryd.ntmps5
  go_wp2_with fail
  generalize w.alloc (.cells #[.int .i64 W, .int .i64 (S : Nat), .int .i64 (B : Nat), .int .i64 T, .slice ad len cap] 24) = w0 at *
  generalize hM : w.heap.size = M at *
  refine (speaks11 _ F0).mono ?_
  rintro e wa ⟨rfl, hb⟩
  have K1 := Lib.hid (K0.out.next hb)
  clear hb K0 F0
  obtain ⟨c0, c1, c2, c3, c4⟩ := cfg_cells K1.out.c
  go_wp2_with fail
  refine (rmay_any W (S : Nat) (B : Nat) T ad len cap f _ (Lib.hid K1.out.r) hl).mono ?_
  rintro e wb ⟨he, hb⟩
  obtain rfl : e = .returned (.bool true) := by rw [he, hm.out]
  have K2 := Lib.hid (K1.out.next hb)
  clear hb K1 c0 c1 c2 c3 c4 he
  have l3 : decide ((100 : Int) < (n0 : Int)) = false := by simp; omega
  obtain ⟨c0, c1, c2, c3, c4⟩ := cfg_cells K2.out.c
  go_wp2_with fail
  refine (hnew_any W (S : Nat) (B : Nat) T ad len cap f _ (Lib.hid K2.out.r) (by omega)).mono ?_
  rintro e wc ⟨cb, rfl, n1, n2, hb⟩
  have E1 := Lib.hid n1
  have E2 := Lib.hid n2
  have E3 := Lib.hid hb
  clear n1 n2 hb c0 c1 c2 c3 c4
  have WO : Hid (∀ w, Calls Tryd.prog 18 #[.agg #[.int .i64 W, .int .i64 (S : Nat), .int .i64 (B : Nat), .int .i64 T, .slice (some ⟨cb, 0, none⟩) len len]] w fun e w' => e = .returned (.int .i64 ((2 * S : Nat) : Int)) ∧ Below w.heap.size w w') := fun w => (hwords_any W (S : Nat) (B : Nat) T _ w (by omega) (by omega)).mono fun _ _ h => ⟨h.1, h.2⟩
  have X1 := Lib.hid (box1 wc (.cells #[.int .i64 W, .int .i64 (S : Nat), .int .i64 (B : Nat), .int .i64 T, .slice (some ⟨cb, 0, none⟩) len len] 29))
  have X2 : Hid (HBox _ wc.heap.size W (S : Nat) (B : Nat) T (.slice (some ⟨cb, 0, none⟩) len len)) := heap_new wc (.cells #[.int .i64 W, .int .i64 (S : Nat), .int .i64 (B : Nat), .int .i64 T, .slice (some ⟨cb, 0, none⟩) len len] 29)
  have X3 : Hid ((wc.alloc (.cells #[.int .i64 W, .int .i64 (S : Nat), .int .i64 (B : Nat), .int .i64 T, .slice (some ⟨cb, 0, none⟩) len len] 29)).heap.size = wc.heap.size + 1) := by show _ = _; simp
  go_wp2_with fail
  generalize wc.alloc (.cells #[.int .i64 W, .int .i64 (S : Nat), .int .i64 (B : Nat), .int .i64 T, .slice (some ⟨cb, 0, none⟩) len len] 29) = wd at *
  refine (WO.out _).mono ?_
  rintro e we ⟨rfl, hb⟩
  have X4 := Lib.hid hb
  clear hb WO
  obtain ⟨i0, hi, hz0, hz1, hz2⟩ := info_parts info64
  go_wp2_with (at_make; refine wpList_make_full _ rfl _ _ 33 rfl 0 35 i0 (.int .u64 0) 1 Tryd.underlying33 hi hz0 hz1 .i64 .i64 _ _ (2 * S) rfl rfl (by omega) (by omega) (by rw [hz2]; omega) (by unfold maxLen; omega) (Nat.zero_le _) ?_)
  intro w5 ho hg
  have BG := grown_below hg rfl
  have K5 : Hid (Su w w5 M wc.heap.size we.heap.size cb W T S B len ad cap f (List.replicate S Sb.none)) := by
    have q1 := X1.out.size
    have q3 := X3.out
    have q4 := X4.out.size
    have B5 : Below wc.heap.size wc w5 := (X1.out.trans (X4.out.mono (by omega))).trans (BG.mono (by omega))
    exact su_start K2.out hM (by omega) hF.out E1.out E2.out E3.out B5 ((X2.out.next X4.out).next BG) (by omega) (hw_new ho (by omega)) OK.out (by omega)
  clear ho hg BG hi hz0 hz1 hz2 X1 X2 X3 X4 E1 E2 E3 K2
  generalize hN : wc.heap.size = N at *
  generalize hb0 : we.heap.size = b at *
  clear hN hb0
  go_upto_region 7 with fail
  go_cut [7, 8] (fun u7 u8 wx => ∃ ob rb, u7 = .slice (some ⟨ob, 0, none⟩) S S ∧ u8 = .slice (some ⟨rb, 0, none⟩) S S ∧ Hid (Su w wx M N b cb W T S B len ad cap f (List.replicate S Sb.none)) ∧ Hid (Ke w wx M N b cb ob rb S (fun _ => 0) (fun _ => 0)))
  case first =>
    refine wp_region_noPanic ?_
    refine wp_region_held_drew (S := fun w' => Cfg5 w' M W (S : Nat) (B : Nat) T (.slice ad len cap)) (by kernel_rfl) (K5.out.drew.cfg) (fun hHeld => ?_)
    have G0 := Lib.hid K5.out.drew
    generalize w5.drew = z0 at *
    refine wpAnyH_take (i := 0) (v := .pointer (some ⟨M, 1, none⟩)) rfl (by kernel_rfl) (by kernel_rfl) (by kernel_rfl) (fun _ _ _ h => h) (Or.inl ⟨by rfl, fun w hSw => by obtain ⟨c0, c1, c2, c3, c4⟩ := cfg_cells hSw; go_simp⟩) (by assumption) ?_
    change wpAnyH _ _ _ _ _ _ _ (Act.put _ (some 35) _) _
    simp only [Act.put, List.setIfInBounds_toArray, List.set_cons_zero, List.set_cons_succ]
    refine wpAnyH_take (i := 1) (v := .int .i64 (S : Nat)) rfl (by kernel_rfl) (by kernel_rfl) (by kernel_rfl) (fun _ _ _ h => h) (Or.inl ⟨by rfl, fun w hSw => by obtain ⟨c0, c1, c2, c3, c4⟩ := cfg_cells hSw; go_simp⟩) (by assumption) ?_
    change wpAnyH _ _ _ _ _ _ _ (Act.put _ (some 36) _) _
    simp only [Act.put, List.setIfInBounds_toArray, List.set_cons_zero, List.set_cons_succ]
    refine wpAnyH_take (i := 3) (v := .pointer (some ⟨M, 1, none⟩)) rfl (by kernel_rfl) (by kernel_rfl) (by kernel_rfl) (fun _ _ _ h => h) (Or.inl ⟨by rfl, fun w hSw => by obtain ⟨c0, c1, c2, c3, c4⟩ := cfg_cells hSw; go_simp⟩) (by assumption) ?_
    change wpAnyH _ _ _ _ _ _ _ (Act.put _ (some 38) _) _
    simp only [Act.put, List.setIfInBounds_toArray, List.set_cons_zero, List.set_cons_succ]
    refine wpAnyH_take (i := 4) (v := .int .i64 (S : Nat)) rfl (by kernel_rfl) (by kernel_rfl) (by kernel_rfl) (fun _ _ _ h => h) (Or.inl ⟨by rfl, fun w hSw => by obtain ⟨c0, c1, c2, c3, c4⟩ := cfg_cells hSw; go_simp⟩) (by assumption) ?_
    change wpAnyH _ _ _ _ _ _ _ (Act.put _ (some 39) _) _
    simp only [Act.put, List.setIfInBounds_toArray, List.set_cons_zero, List.set_cons_succ]
    refine wpAnyH_ready (rs := [2, 5]) (by kernel_rfl) (by simp) ?_
    refine AllReadyH.cons rfl (fun K hK => ?_) (AllReadyH.cons rfl (fun K hK => ?_) (AllReadyH.nil))
    · obtain ⟨i0, hi, hz0, hz1, hz2⟩ := info_parts info64
      obtain ⟨y1, hrun, ho, hg⟩ := run_make_full (P := Tryd.prog) z0 0 33 35 i0 (.int .u64 0) 1 Tryd.underlying33 hi hz0 hz1 .i64 .i64 S (by rw [hz2]; omega) (by unfold maxLen; omega) (Nat.zero_le _)
      rw [Nat.mul_one] at ho
      refine step_make (v := .slice (some ⟨z0.heap.size, 0, none⟩) S S) (w' := y1) rfl rfl rfl rfl hrun ?_
      have hb := grown_below hg rfl
      have G1 := Lib.hid (G0.out.next hb)
      have P1 : Hid (RO y1 z0.heap.size S (fun _ => 0)) := RO.new ho
      have Q1 : Hid (w.heap.size ≤ z0.heap.size ∧ z0.heap.size ≠ M ∧ z0.heap.size ≠ N ∧ z0.heap.size ≠ b ∧ z0.heap.size ≠ cb) := Lib.hid (by have h1 := heap_lt G0.out.sp.box; have h2 := heap_lt G0.out.sp.row; have h3 := G0.out.sp.hw.lt; have h4 := cfg_lt G0.out.cfg; have h5 := G0.out.sp.be.size; omega)
      clear hrun ho hg hi hz0 hz1 hz2 hb
      generalize z0.heap.size = p1 at *
      show K (Act.put _ (some 37) _) y1
      refine hK.out _ _ (G1.out.cfg) (fun hHeld1 => ?_)
      clear hK K
      simp only [Act.put, List.setIfInBounds_toArray, List.set_cons_zero, List.set_cons_succ]
      refine wpAnyH_take (i := 6) (v := .slice (some ⟨p1, 0, none⟩) S S) rfl (by kernel_rfl) (by kernel_rfl) (by kernel_rfl) (fun _ _ _ h => h) (Or.inl ⟨by rfl, fun w hSw => by obtain ⟨c0, c1, c2, c3, c4⟩ := cfg_cells hSw; go_simp⟩) (by assumption) ?_
      change wpAnyH _ _ _ _ _ _ _ (Act.put _ (some 7) _) _
      simp only [Act.put, List.setIfInBounds_toArray, List.set_cons_zero, List.set_cons_succ]
      refine wpAnyH_ready (rs := [5]) (by kernel_rfl) (by simp) ?_
      refine AllReadyH.cons rfl (fun K hK => ?_) (AllReadyH.nil)
      obtain ⟨i0, hi, hz0, hz1, hz2⟩ := info_parts infoI'
      obtain ⟨y2, hrun, ho, hg⟩ := run_make_full (P := Tryd.prog) y1 0 22 3 i0 (.int .i64 0) 1 Tryd.underlying22 hi hz0 hz1 .i64 .i64 S (by rw [hz2]; omega) (by unfold maxLen; omega) (Nat.zero_le _)
      rw [Nat.mul_one] at ho
      refine step_make (v := .slice (some ⟨y1.heap.size, 0, none⟩) S S) (w' := y2) rfl rfl rfl rfl hrun ?_
      have hb := grown_below hg rfl
      have G2 := Lib.hid (G1.out.next hb)
      have P2 : Hid (RR y2 y1.heap.size S (fun _ => 0)) := RR.new ho
      have P1' := Lib.hid (P1.out.next hb)
      have Q2 : Hid ((w.heap.size ≤ y1.heap.size ∧ y1.heap.size ≠ M ∧ y1.heap.size ≠ N ∧ y1.heap.size ≠ b ∧ y1.heap.size ≠ cb) ∧ p1 ≠ y1.heap.size) := Lib.hid (by have h1 := heap_lt G1.out.sp.box; have h2 := heap_lt G1.out.sp.row; have h3 := G1.out.sp.hw.lt; have h4 := cfg_lt G1.out.cfg; have h5 := G1.out.sp.be.size; have h6 := heap_lt P1.out; omega)
      clear hrun ho hg hi hz0 hz1 hz2 hb
      generalize y1.heap.size = p2 at *
      show K (Act.put _ (some 40) _) y2
      refine hK.out _ _ (G2.out.cfg) (fun hHeld2 => ?_)
      clear hK K
      simp only [Act.put, List.setIfInBounds_toArray, List.set_cons_zero, List.set_cons_succ]
      refine wpAnyH_take (i := 7) (v := .slice (some ⟨p2, 0, none⟩) S S) rfl (by kernel_rfl) (by kernel_rfl) (by kernel_rfl) (fun _ _ _ h => h) (Or.inl ⟨by rfl, fun w hSw => by obtain ⟨c0, c1, c2, c3, c4⟩ := cfg_cells hSw; go_simp⟩) (by assumption) ?_
      change wpAnyH _ _ _ _ _ _ _ (Act.put _ (some 8) _) _
      simp only [Act.put, List.setIfInBounds_toArray, List.set_cons_zero, List.set_cons_succ]
      refine ⟨by kernel_rfl, ?_⟩
      refine NoPanic.normal ?_
      go_wp2_with fail
      go_meet
      case rel => exact ⟨p1, p2, rfl, rfl, G2, Lib.hid ⟨P1'.out, P2.out, by have h1 := Q1.out; have h2 := Q2.out; omega⟩⟩

    · obtain ⟨i0, hi, hz0, hz1, hz2⟩ := info_parts infoI'
      obtain ⟨y1, hrun, ho, hg⟩ := run_make_full (P := Tryd.prog) z0 0 22 3 i0 (.int .i64 0) 1 Tryd.underlying22 hi hz0 hz1 .i64 .i64 S (by rw [hz2]; omega) (by unfold maxLen; omega) (Nat.zero_le _)
      rw [Nat.mul_one] at ho
      refine step_make (v := .slice (some ⟨z0.heap.size, 0, none⟩) S S) (w' := y1) rfl rfl rfl rfl hrun ?_
      have hb := grown_below hg rfl
      have G1 := Lib.hid (G0.out.next hb)
      have P1 : Hid (RR y1 z0.heap.size S (fun _ => 0)) := RR.new ho
      have Q1 : Hid (w.heap.size ≤ z0.heap.size ∧ z0.heap.size ≠ M ∧ z0.heap.size ≠ N ∧ z0.heap.size ≠ b ∧ z0.heap.size ≠ cb) := Lib.hid (by have h1 := heap_lt G0.out.sp.box; have h2 := heap_lt G0.out.sp.row; have h3 := G0.out.sp.hw.lt; have h4 := cfg_lt G0.out.cfg; have h5 := G0.out.sp.be.size; omega)
      clear hrun ho hg hi hz0 hz1 hz2 hb
      generalize z0.heap.size = p1 at *
      show K (Act.put _ (some 40) _) y1
      refine hK.out _ _ (G1.out.cfg) (fun hHeld1 => ?_)
      clear hK K
      simp only [Act.put, List.setIfInBounds_toArray, List.set_cons_zero, List.set_cons_succ]
      refine wpAnyH_ready (rs := [2]) (by kernel_rfl) (by simp) ?_
      refine AllReadyH.cons rfl (fun K hK => ?_) (AllReadyH.nil)
      obtain ⟨i0, hi, hz0, hz1, hz2⟩ := info_parts info64
      obtain ⟨y2, hrun, ho, hg⟩ := run_make_full (P := Tryd.prog) y1 0 33 35 i0 (.int .u64 0) 1 Tryd.underlying33 hi hz0 hz1 .i64 .i64 S (by rw [hz2]; omega) (by unfold maxLen; omega) (Nat.zero_le _)
      rw [Nat.mul_one] at ho
      refine step_make (v := .slice (some ⟨y1.heap.size, 0, none⟩) S S) (w' := y2) rfl rfl rfl rfl hrun ?_
      have hb := grown_below hg rfl
      have G2 := Lib.hid (G1.out.next hb)
      have P2 : Hid (RO y2 y1.heap.size S (fun _ => 0)) := RO.new ho
      have P1' := Lib.hid (P1.out.next hb)
      have Q2 : Hid ((w.heap.size ≤ y1.heap.size ∧ y1.heap.size ≠ M ∧ y1.heap.size ≠ N ∧ y1.heap.size ≠ b ∧ y1.heap.size ≠ cb) ∧ p1 ≠ y1.heap.size) := Lib.hid (by have h1 := heap_lt G1.out.sp.box; have h2 := heap_lt G1.out.sp.row; have h3 := G1.out.sp.hw.lt; have h4 := cfg_lt G1.out.cfg; have h5 := G1.out.sp.be.size; have h6 := heap_lt P1.out; omega)
      clear hrun ho hg hi hz0 hz1 hz2 hb
      generalize y1.heap.size = p2 at *
      show K (Act.put _ (some 37) _) y2
      refine hK.out _ _ (G2.out.cfg) (fun hHeld2 => ?_)
      clear hK K
      simp only [Act.put, List.setIfInBounds_toArray, List.set_cons_zero, List.set_cons_succ]
      refine wpAnyH_take (i := 6) (v := .slice (some ⟨p2, 0, none⟩) S S) rfl (by kernel_rfl) (by kernel_rfl) (by kernel_rfl) (fun _ _ _ h => h) (Or.inl ⟨by rfl, fun w hSw => by obtain ⟨c0, c1, c2, c3, c4⟩ := cfg_cells hSw; go_simp⟩) (by assumption) ?_
      change wpAnyH _ _ _ _ _ _ _ (Act.put _ (some 7) _) _
      simp only [Act.put, List.setIfInBounds_toArray, List.set_cons_zero, List.set_cons_succ]
      refine wpAnyH_take (i := 7) (v := .slice (some ⟨p1, 0, none⟩) S S) rfl (by kernel_rfl) (by kernel_rfl) (by kernel_rfl) (fun _ _ _ h => h) (Or.inl ⟨by rfl, fun w hSw => by obtain ⟨c0, c1, c2, c3, c4⟩ := cfg_cells hSw; go_simp⟩) (by assumption) ?_
      change wpAnyH _ _ _ _ _ _ _ (Act.put _ (some 8) _) _
      simp only [Act.put, List.setIfInBounds_toArray, List.set_cons_zero, List.set_cons_succ]
      refine ⟨by kernel_rfl, ?_⟩
      refine NoPanic.normal ?_
      go_wp2_with fail
      go_meet
      case rel => exact ⟨p2, p1, rfl, rfl, G2, Lib.hid ⟨P2.out, P1'.out, by have h1 := Q1.out; have h2 := Q2.out; omega⟩⟩
  case rest =>
    obtain ⟨ob, rb, rfl, rfl, G5, E5⟩ := hcut
    clear K5
    go_wp2_with fail
    go_loopw [43] (fun u43 wr => ∃ (j : Nat) (l : List Sb) (O R : Nat → Nat), j ≤ n0 ∧ u43 = .int .i64 (j : Nat) ∧ Hid (Su w wr M N b cb W T S B len ad cap f (l)) ∧ Hid (Ke w wr M N b cb ob rb S (O) (R)) ∧ Hid (GoodK (capN len f) l O R)) (fun u43 _ => n0 - (intOf u43).toNat)
    case atStart => exact ⟨0, _, _, _, by omega, rfl, G5, E5, good_new _ _⟩
    case round =>
      obtain ⟨j, l, O, R, hj, rfl, G, E, GK⟩ := hrel
      by_cases hlt : j < n0
      · have l3 : (j : Int) < (n0 : Int) := by omega
        have few := G.out.sp.hw.few
        have hS := Lib.hid G.out.cnt
        have hcap := capN_le G.out.sp.ok
        obtain ⟨qb, qoff, rfl, fine, hc0, hc1, hc2, hc3, hc4⟩ := (hz.out.next G.out.sp.be).at hlt
        generalize Q j = q at *
        have hba := below_alloc wr (.cells #[.int .i64 q.k, .int .i64 q.n, .int .u64 (q.m : Nat), .int .u64 (q.a : Nat), .int .u64 (q.d : Nat)] 39)
        have A : Hid (AkBox (wr.alloc (.cells #[.int .i64 q.k, .int .i64 q.n, .int .u64 (q.m : Nat), .int .u64 (q.a : Nat), .int .u64 (q.d : Nat)] 39)) wr.heap.size q.k q.n q.m q.a q.d) := heap_new wr (.cells #[.int .i64 q.k, .int .i64 q.n, .int .u64 (q.m : Nat), .int .u64 (q.a : Nat), .int .u64 (q.d : Nat)] 39)
        have mq : wr.heap.size ≠ b ∧ wr.heap.size ≠ ob ∧ wr.heap.size ≠ rb := by
          have h1 := G.out.sp.hw.lt
          have h2 := heap_lt E.out.o
          have h3 := heap_lt E.out.r
          omega
        have GX := Lib.hid (G.out.next hba)
        have EX := Lib.hid (E.out.next hba)
        clear hba G E
        go_upto_region 11 with fail
        clear hc0 hc1 hc2 hc3 hc4
        generalize wr.alloc (.cells #[.int .i64 q.k, .int .i64 q.n, .int .u64 (q.m : Nat), .int .u64 (q.a : Nat), .int .u64 (q.d : Nat)] 39) = wQ at *
        generalize wr.heap.size = MQ at *
        have G := GX
        have E := EX
        clear GX EX
        obtain ⟨k, n, m, a, d⟩ := q
        obtain ⟨⟨n1, n2⟩, m2, _, _⟩ := fine
        simp only at n1 n2 m2
        have k0 := A.out.c0
        have k1 := A.out.c1
        have k2 := A.out.c2
        simp only at k0 k1 k2
        obtain ⟨c0, c1, c2, c3, c4⟩ := cfg_cells G.out.cfg
        go_upto_block 2 with fail
        go_cut [] (fun wx => ∃ (l2 : List Sb) (O2 R2 : Nat → Nat), Hid (Su w wx M N b cb W T S B len ad cap f (l2)) ∧ Hid (Ke w wx M N b cb ob rb S (O2) (R2)) ∧ Hid (GoodK (capN len f) l2 O2 R2))
        case first =>
          rcases (by omega : k = 1 ∨ k = 2 ∨ k = 3 ∨ k = 4 ∨ (k ≠ 1 ∧ k ≠ 2 ∧ k ≠ 3 ∧ k ≠ 4)) with rfl | rfl | rfl | rfl | ⟨u1, u2, u3, u4⟩
          · as_aux_lemma =>
              obtain ⟨AQ, DQ, hAQ⟩ : ∃ AQ DQ, Hid (askA 1 n = AQ ∧ askB n 0 = DQ) := ⟨_, _, rfl, rfl⟩
              have hAQ64 : Hid (AQ < 18446744073709551616 ∧ DQ < 18446744073709551616) := by
                have := ask_lt (k := 1) (m := 0) (n := n) (by decide) (by omega)
                rw [hAQ.out.1, hAQ.out.2] at this
                exact this
              obtain ⟨l2, x1, x2, hx', hlen, hcase⟩ := keep_refill (cap := capN len f) (B := B) GK.out hcap (by omega) n
              rw [hAQ.out.1, hAQ.out.2] at hx'
              have hx := Lib.hid hx'
              have hC := Lib.hid hcase
              have hlen := Lib.hid hlen
              clear hx' hcase
              have OC : Hid (∀ y, FldAt y → Calls Tryd.prog 22 #[.int .i64 n] y fun e y' => e = .returned (.agg #[.int .u64 (AQ : Nat), .int .u64 (DQ : Nat)]) ∧ Below y.heap.size y y') := fun y h => by
                have := refillOp_any n y (by omega) (by omega) (Lib.hid h)
                rw [hAQ.out.1, hAQ.out.2] at this
                exact this
              have AP : Hid (∀ y, Su w y M N b cb W T S B len ad cap f (l) → Calls Tryd.prog 21 #[.agg #[.int .i64 W, .int .i64 (S : Nat), .int .i64 (B : Nat), .int .i64 T, .slice (some ⟨cb, 0, none⟩) len len], .slice (some ⟨b, 0, none⟩) (2 * S) (2 * S), .agg #[.int .u64 (AQ : Nat), .int .u64 (DQ : Nat)]] y fun e y' => e = .returned (.agg #[.int .u64 (x1 : Nat), .int .u64 (x2 : Nat)]) ∧ Su w y' M N b cb W T S B len ad cap f (l2) ∧ Only [b] y y') := fun y h => h.asks (c := 2 * S) hAQ64.out.1 hAQ64.out.2 hx.out
              go_upto_region 13 with fail
              go_cut [11] (fun u11 wx => ∃ nb, u11 = .pointer (some ⟨nb, 0, none⟩) ∧ Hid (Su w wx M N b cb W T S B len ad cap f (l2)) ∧ Hid (Bx w wx nb x1 x2 N b cb ∧ nb ≠ M ∧ ob ≠ nb ∧ rb ≠ nb ∧ MQ ≠ nb) ∧ Hid (Ke w wx M N b cb ob rb S (O) (R)) ∧ Hid (AkBox wx MQ 1 n m a d))
              case first =>
                as_aux_lemma =>
                  refine wp_region_noPanic ?_
                  refine wp_region_held_drew (S := fun w' => HBox w' N W (S : Nat) (B : Nat) T (.slice (some ⟨cb, 0, none⟩) len len) ∧ AkBox w' MQ 1 n m a d) (by kernel_rfl) (⟨G.out.sp.box, A.out⟩) (fun hHeld => ?_)
                  have DR := (Below.refl wQ.heap.size wQ).drew
                  have G0 := Lib.hid (G.out.next DR)
                  have E0 := Lib.hid (E.out.next DR)
                  have A0 := Lib.hid (AkBox.next A.out DR)
                  clear DR
                  generalize wQ.drew = z0 at *
                  refine wpAnyH_take (i := 0) (v := .agg #[.int .i64 W, .int .i64 (S : Nat), .int .i64 (B : Nat), .int .i64 T, .slice (some ⟨cb, 0, none⟩) len len]) rfl (by kernel_rfl) (by kernel_rfl) (by kernel_rfl) (fun _ _ _ h => h) (Or.inl ⟨by rfl, fun w hSw => by obtain ⟨hB, hA⟩ := hSw; have c0 := HBox.c0 hB; have c1 := HBox.c1 hB; have c2 := HBox.c2 hB; have c3 := HBox.c3 hB; have c4 := HBox.c4 hB; have a0 := AkBox.c0 hA; have a1 := AkBox.c1 hA; have a2 := AkBox.c2 hA; go_simp⟩) (by assumption) ?_
                  change wpAnyH _ _ _ _ _ _ _ (Act.put _ (some 51) _) _
                  simp only [Act.put, List.setIfInBounds_toArray, List.set_cons_zero, List.set_cons_succ]
                  refine wpAnyH_take (i := 1) (v := .slice (some ⟨b, 0, none⟩) (2 * S) (2 * S)) rfl (by kernel_rfl) (by kernel_rfl) (by kernel_rfl) (fun _ _ _ h => h) (Or.inl ⟨by rfl, fun w hSw => by obtain ⟨hB, hA⟩ := hSw; have c0 := HBox.c0 hB; have c1 := HBox.c1 hB; have c2 := HBox.c2 hB; have c3 := HBox.c3 hB; have c4 := HBox.c4 hB; have a0 := AkBox.c0 hA; have a1 := AkBox.c1 hA; have a2 := AkBox.c2 hA; go_simp⟩) (by assumption) ?_
                  change wpAnyH _ _ _ _ _ _ _ (Act.put _ (some 52) _) _
                  simp only [Act.put, List.setIfInBounds_toArray, List.set_cons_zero, List.set_cons_succ]
                  refine wpAnyH_take (i := 2) (v := .pointer (some ⟨MQ, 1, none⟩)) rfl (by kernel_rfl) (by kernel_rfl) (by kernel_rfl) (fun _ _ _ h => h) (Or.inl ⟨by rfl, fun w hSw => by obtain ⟨hB, hA⟩ := hSw; have c0 := HBox.c0 hB; have c1 := HBox.c1 hB; have c2 := HBox.c2 hB; have c3 := HBox.c3 hB; have c4 := HBox.c4 hB; have a0 := AkBox.c0 hA; have a1 := AkBox.c1 hA; have a2 := AkBox.c2 hA; go_simp⟩) (by assumption) ?_
                  change wpAnyH _ _ _ _ _ _ _ (Act.put _ (some 53) _) _
                  simp only [Act.put, List.setIfInBounds_toArray, List.set_cons_zero, List.set_cons_succ]
                  refine wpAnyH_take (i := 3) (v := .int .i64 n) rfl (by kernel_rfl) (by kernel_rfl) (by kernel_rfl) (fun _ _ _ h => h) (Or.inl ⟨by rfl, fun w hSw => by obtain ⟨hB, hA⟩ := hSw; have c0 := HBox.c0 hB; have c1 := HBox.c1 hB; have c2 := HBox.c2 hB; have c3 := HBox.c3 hB; have c4 := HBox.c4 hB; have a0 := AkBox.c0 hA; have a1 := AkBox.c1 hA; have a2 := AkBox.c2 hA; go_simp⟩) (by assumption) ?_
                  change wpAnyH _ _ _ _ _ _ _ (Act.put _ (some 54) _) _
                  simp only [Act.put, List.setIfInBounds_toArray, List.set_cons_zero, List.set_cons_succ]
                  refine wpAnyH_ready (rs := [4, 6]) (by kernel_rfl) (by simp) ?_
                  refine AllReadyH.cons rfl (fun K hK => ?_) (AllReadyH.cons rfl (fun K hK => ?_) (AllReadyH.nil))
                  · refine step_enter (F := 22) (vals := #[.int .i64 n]) rfl (by kernel_rfl) ?_
                    refine (OC.out _ G0.out.sp.fl).mono ?_
                    rintro e y2 ⟨rfl, hb⟩
                    have G2 := Lib.hid (G0.out.next hb)
                    have E2 := Lib.hid (E0.out.next hb)
                    have A2 := Lib.hid (AkBox.next A0.out hb)
                    clear hb
                    show K (Act.put _ (some 55) _) y2
                    refine hK.out _ _ (⟨G2.out.sp.box, A2.out⟩) (fun _ => ?_)
                    clear hK K
                    refine wpAnyH_ready (rs := [5, 6]) (by kernel_rfl) (by simp) ?_
                    refine AllReadyH.cons rfl (fun K hK => ?_) (AllReadyH.cons rfl (fun K hK => ?_) (AllReadyH.nil))
                    · refine step_enter (F := 21) (vals := #[.agg #[.int .i64 W, .int .i64 (S : Nat), .int .i64 (B : Nat), .int .i64 T, .slice (some ⟨cb, 0, none⟩) len len], .slice (some ⟨b, 0, none⟩) (2 * S) (2 * S), .agg #[.int .u64 (AQ : Nat), .int .u64 (DQ : Nat)]]) rfl (by kernel_rfl) ?_
                      refine (AP.out _ G2.out).mono ?_
                      rintro e y4 ⟨rfl, hg, ho⟩
                      have G4 := Lib.hid hg
                      have E4 := Lib.hid (E2.out.stay ho (by have := E2.out.ne; simp; omega))
                      have A4 := Lib.hid (ho.at A2.out (by simp; omega))
                      clear hg ho
                      show K (Act.put _ (some 56) _) y4
                      refine hK.out _ _ (⟨G4.out.sp.box, A4.out⟩) (fun _ => ?_)
                      clear hK K
                      refine wpAnyH_ready (rs := [6]) (by kernel_rfl) (by simp) ?_
                      refine AllReadyH.cons rfl (fun K hK => ?_) (AllReadyH.nil)
                      · refine step_value (v := .pointer (some ⟨y4.heap.size, 0, none⟩)) (w' := y4.alloc (.cells #[.int .u64 0, .int .u64 0] 37)) rfl (by kernel_rfl) ?_
                        have hb := box1 y4 (.cells #[.int .u64 0, .int .u64 0] 37)
                        have G6 := Lib.hid (G4.out.next hb)
                        have X6 : Hid (Bx w (y4.alloc (.cells #[.int .u64 0, .int .u64 0] 37)) y4.heap.size 0 0 N b cb ∧ y4.heap.size ≠ M ∧ ob ≠ y4.heap.size ∧ rb ≠ y4.heap.size ∧ MQ ≠ y4.heap.size) := ⟨G4.out.alloc.1, G4.out.alloc.2, ⟨Nat.ne_of_lt (heap_lt E4.out.o), Nat.ne_of_lt (heap_lt E4.out.r), Nat.ne_of_lt (heap_lt A4.out)⟩⟩
                        have E6 := Lib.hid (E4.out.next hb)
                        have A6 := Lib.hid (AkBox.next A4.out hb)
                        clear hb
                        generalize y4.alloc (.cells #[.int .u64 0, .int .u64 0] 37) = y6 at *
                        generalize y4.heap.size = nb at *
                        show K (Act.put _ (some 11) _) y6
                        refine hK.out _ _ (⟨G6.out.sp.box, A6.out⟩) (fun _ => ?_)
                        clear hK K
                        refine wpAnyH_ready (rs := [7]) (by kernel_rfl) (by simp) ?_
                        refine AllReadyH.cons rfl (fun K hK => ?_) AllReadyH.nil
                        have z0 := X6.out.1.op.z0
                        have z1 := X6.out.1.op.z1
                        have f0 := frozen_of (j := 0) X6.out.1.op
                        have f1 := frozen_of (j := 1) X6.out.1.op
                        have nn := X6.out.1.ne
                        have nM := X6.out.2.1
                        have nX := X6.out.2.2
                        have OO := only_op (w := y6) (n := nb) (.int .u64 (x1 : Nat)) (.int .u64 (x2 : Nat))
                        have GZ := Lib.hid (G6.out.stay OO (by simp; omega))
                        have XZ : Hid (Bx w _ nb (x1) (x2) N b cb ∧ nb ≠ M ∧ ob ≠ nb ∧ rb ≠ nb ∧ MQ ≠ nb) := ⟨⟨X6.out.1.op.set (x1) (x2), nn⟩, nM, nX⟩
                        have EZ := Lib.hid (E6.out.stay OO (by have := E6.out.ne; simp; omega))
                        have AZ := Lib.hid (OO.at A6.out (by simp; omega))
                        go_simp
                        refine hK.out _ _ (⟨GZ.out.sp.box, AZ.out⟩) (fun _ => ?_)
                        refine ⟨by kernel_rfl, ?_⟩
                        refine NoPanic.normal ?_
                        go_wp2_with fail
                        go_meet
                        case rel => exact ⟨nb, rfl, GZ, XZ, EZ, AZ⟩

                    · refine step_value (v := .pointer (some ⟨y2.heap.size, 0, none⟩)) (w' := y2.alloc (.cells #[.int .u64 0, .int .u64 0] 37)) rfl (by kernel_rfl) ?_
                      have hb := box1 y2 (.cells #[.int .u64 0, .int .u64 0] 37)
                      have G8 := Lib.hid (G2.out.next hb)
                      have X8 : Hid (Bx w (y2.alloc (.cells #[.int .u64 0, .int .u64 0] 37)) y2.heap.size 0 0 N b cb ∧ y2.heap.size ≠ M ∧ ob ≠ y2.heap.size ∧ rb ≠ y2.heap.size ∧ MQ ≠ y2.heap.size) := ⟨G2.out.alloc.1, G2.out.alloc.2, ⟨Nat.ne_of_lt (heap_lt E2.out.o), Nat.ne_of_lt (heap_lt E2.out.r), Nat.ne_of_lt (heap_lt A2.out)⟩⟩
                      have E8 := Lib.hid (E2.out.next hb)
                      have A8 := Lib.hid (AkBox.next A2.out hb)
                      clear hb
                      generalize y2.alloc (.cells #[.int .u64 0, .int .u64 0] 37) = y8 at *
                      generalize y2.heap.size = nb at *
                      show K (Act.put _ (some 11) _) y8
                      refine hK.out _ _ (⟨G8.out.sp.box, A8.out⟩) (fun _ => ?_)
                      clear hK K
                      refine wpAnyH_ready (rs := [5]) (by kernel_rfl) (by simp) ?_
                      refine AllReadyH.cons rfl (fun K hK => ?_) (AllReadyH.nil)
                      · refine step_enter (F := 21) (vals := #[.agg #[.int .i64 W, .int .i64 (S : Nat), .int .i64 (B : Nat), .int .i64 T, .slice (some ⟨cb, 0, none⟩) len len], .slice (some ⟨b, 0, none⟩) (2 * S) (2 * S), .agg #[.int .u64 (AQ : Nat), .int .u64 (DQ : Nat)]]) rfl (by kernel_rfl) ?_
                        refine (AP.out _ G8.out).mono ?_
                        rintro e y10 ⟨rfl, hg, ho⟩
                        have G10 := Lib.hid hg
                        have nn := X8.out.1.ne
                        have X10 : Hid (Bx w y10 nb 0 0 N b cb ∧ nb ≠ M ∧ ob ≠ nb ∧ rb ≠ nb ∧ MQ ≠ nb) := ⟨X8.out.1.stay ho (by simp; omega), X8.out.2⟩
                        have E10 := Lib.hid (E8.out.stay ho (by have := E8.out.ne; simp; omega))
                        have A10 := Lib.hid (ho.at A8.out (by simp; omega))
                        clear hg ho
                        show K (Act.put _ (some 56) _) y10
                        refine hK.out _ _ (⟨G10.out.sp.box, A10.out⟩) (fun _ => ?_)
                        clear hK K
                        refine wpAnyH_ready (rs := [7]) (by kernel_rfl) (by simp) ?_
                        refine AllReadyH.cons rfl (fun K hK => ?_) AllReadyH.nil
                        have z0 := X10.out.1.op.z0
                        have z1 := X10.out.1.op.z1
                        have f0 := frozen_of (j := 0) X10.out.1.op
                        have f1 := frozen_of (j := 1) X10.out.1.op
                        have nn := X10.out.1.ne
                        have nM := X10.out.2.1
                        have nX := X10.out.2.2
                        have OO := only_op (w := y10) (n := nb) (.int .u64 (x1 : Nat)) (.int .u64 (x2 : Nat))
                        have GZ := Lib.hid (G10.out.stay OO (by simp; omega))
                        have XZ : Hid (Bx w _ nb (x1) (x2) N b cb ∧ nb ≠ M ∧ ob ≠ nb ∧ rb ≠ nb ∧ MQ ≠ nb) := ⟨⟨X10.out.1.op.set (x1) (x2), nn⟩, nM, nX⟩
                        have EZ := Lib.hid (E10.out.stay OO (by have := E10.out.ne; simp; omega))
                        have AZ := Lib.hid (OO.at A10.out (by simp; omega))
                        go_simp
                        refine hK.out _ _ (⟨GZ.out.sp.box, AZ.out⟩) (fun _ => ?_)
                        refine ⟨by kernel_rfl, ?_⟩
                        refine NoPanic.normal ?_
                        go_wp2_with fail
                        go_meet
                        case rel => exact ⟨nb, rfl, GZ, XZ, EZ, AZ⟩


                  · refine step_value (v := .pointer (some ⟨z0.heap.size, 0, none⟩)) (w' := z0.alloc (.cells #[.int .u64 0, .int .u64 0] 37)) rfl (by kernel_rfl) ?_
                    have hb := box1 z0 (.cells #[.int .u64 0, .int .u64 0] 37)
                    have G12 := Lib.hid (G0.out.next hb)
                    have X12 : Hid (Bx w (z0.alloc (.cells #[.int .u64 0, .int .u64 0] 37)) z0.heap.size 0 0 N b cb ∧ z0.heap.size ≠ M ∧ ob ≠ z0.heap.size ∧ rb ≠ z0.heap.size ∧ MQ ≠ z0.heap.size) := ⟨G0.out.alloc.1, G0.out.alloc.2, ⟨Nat.ne_of_lt (heap_lt E0.out.o), Nat.ne_of_lt (heap_lt E0.out.r), Nat.ne_of_lt (heap_lt A0.out)⟩⟩
                    have E12 := Lib.hid (E0.out.next hb)
                    have A12 := Lib.hid (AkBox.next A0.out hb)
                    clear hb
                    generalize z0.alloc (.cells #[.int .u64 0, .int .u64 0] 37) = y12 at *
                    generalize z0.heap.size = nb at *
                    show K (Act.put _ (some 11) _) y12
                    refine hK.out _ _ (⟨G12.out.sp.box, A12.out⟩) (fun _ => ?_)
                    clear hK K
                    refine wpAnyH_ready (rs := [4]) (by kernel_rfl) (by simp) ?_
                    refine AllReadyH.cons rfl (fun K hK => ?_) (AllReadyH.nil)
                    · refine step_enter (F := 22) (vals := #[.int .i64 n]) rfl (by kernel_rfl) ?_
                      refine (OC.out _ G12.out.sp.fl).mono ?_
                      rintro e y14 ⟨rfl, hb⟩
                      have G14 := Lib.hid (G12.out.next hb)
                      have X14 : Hid (Bx w y14 nb 0 0 N b cb ∧ nb ≠ M ∧ ob ≠ nb ∧ rb ≠ nb ∧ MQ ≠ nb) := ⟨X12.out.1.next hb, X12.out.2⟩
                      have E14 := Lib.hid (E12.out.next hb)
                      have A14 := Lib.hid (AkBox.next A12.out hb)
                      clear hb
                      show K (Act.put _ (some 55) _) y14
                      refine hK.out _ _ (⟨G14.out.sp.box, A14.out⟩) (fun _ => ?_)
                      clear hK K
                      refine wpAnyH_ready (rs := [5]) (by kernel_rfl) (by simp) ?_
                      refine AllReadyH.cons rfl (fun K hK => ?_) (AllReadyH.nil)
                      · refine step_enter (F := 21) (vals := #[.agg #[.int .i64 W, .int .i64 (S : Nat), .int .i64 (B : Nat), .int .i64 T, .slice (some ⟨cb, 0, none⟩) len len], .slice (some ⟨b, 0, none⟩) (2 * S) (2 * S), .agg #[.int .u64 (AQ : Nat), .int .u64 (DQ : Nat)]]) rfl (by kernel_rfl) ?_
                        refine (AP.out _ G14.out).mono ?_
                        rintro e y16 ⟨rfl, hg, ho⟩
                        have G16 := Lib.hid hg
                        have nn := X14.out.1.ne
                        have X16 : Hid (Bx w y16 nb 0 0 N b cb ∧ nb ≠ M ∧ ob ≠ nb ∧ rb ≠ nb ∧ MQ ≠ nb) := ⟨X14.out.1.stay ho (by simp; omega), X14.out.2⟩
                        have E16 := Lib.hid (E14.out.stay ho (by have := E14.out.ne; simp; omega))
                        have A16 := Lib.hid (ho.at A14.out (by simp; omega))
                        clear hg ho
                        show K (Act.put _ (some 56) _) y16
                        refine hK.out _ _ (⟨G16.out.sp.box, A16.out⟩) (fun _ => ?_)
                        clear hK K
                        refine wpAnyH_ready (rs := [7]) (by kernel_rfl) (by simp) ?_
                        refine AllReadyH.cons rfl (fun K hK => ?_) AllReadyH.nil
                        have z0 := X16.out.1.op.z0
                        have z1 := X16.out.1.op.z1
                        have f0 := frozen_of (j := 0) X16.out.1.op
                        have f1 := frozen_of (j := 1) X16.out.1.op
                        have nn := X16.out.1.ne
                        have nM := X16.out.2.1
                        have nX := X16.out.2.2
                        have OO := only_op (w := y16) (n := nb) (.int .u64 (x1 : Nat)) (.int .u64 (x2 : Nat))
                        have GZ := Lib.hid (G16.out.stay OO (by simp; omega))
                        have XZ : Hid (Bx w _ nb (x1) (x2) N b cb ∧ nb ≠ M ∧ ob ≠ nb ∧ rb ≠ nb ∧ MQ ≠ nb) := ⟨⟨X16.out.1.op.set (x1) (x2), nn⟩, nM, nX⟩
                        have EZ := Lib.hid (E16.out.stay OO (by have := E16.out.ne; simp; omega))
                        have AZ := Lib.hid (OO.at A16.out (by simp; omega))
                        go_simp
                        refine hK.out _ _ (⟨GZ.out.sp.box, AZ.out⟩) (fun _ => ?_)
                        refine ⟨by kernel_rfl, ?_⟩
                        refine NoPanic.normal ?_
                        go_wp2_with fail
                        go_meet
                        case rel => exact ⟨nb, rfl, GZ, XZ, EZ, AZ⟩
              case rest =>
                obtain ⟨nb, rfl, G, X, E, A⟩ := hcut
                clear OC AP
                have b0 := X.out.1.op.c0
                have b1 := X.out.1.op.c1
                rcases hC.out with ⟨h0, gk⟩ | ⟨i, hi1, hi2, hB0, hB1, hOB, hcnt, hO64, gk⟩
                · have W1 : IntKind.i64.wrap (x1 : Int) = (x1 : Int) := by rw [IntKind.wrap_i64]; omega
                  have W2 : IntKind.i64.wrap ((x1 : Int) - 1) = -1 := by rw [IntKind.wrap_i64]; omega
                  have GK2 := Lib.hid gk
                  clear h0 gk hC
                  go_wp2_with fail
                  go_meet
                  case rel => exact ⟨l2, O, R, G, E, GK2⟩
                · have W1 : IntKind.i64.wrap (x1 : Int) = (x1 : Int) := by rw [IntKind.wrap_i64]; omega
                  have W2 : IntKind.i64.wrap ((x1 : Int) - 1) = (i : Int) := by rw [IntKind.wrap_i64]; omega
                  have hiS : i < S := by have := hS.out; omega
                  have GK2 := Lib.hid gk
                  clear hi1 gk hC
                  have gS1 : ¬ (S : Int) ≤ (i : Int) := by omega
                  have gS2 : ¬ S ≤ i := by omega
                  have gS3 : decide (S ≤ i) = false := by simpa using gS2
                  have gi0 : (0 : Int) ≤ (i : Int) := by omega
                  have gx : ((x2 : Int) == 0) = false := by simp; omega
                  have oc := E.out.o.at hiS
                  generalize hOi : O i = o at *
                  have VO := Lib.hid hOi
                  have AND : bits BinOp.and IntKind.u64 (o : Int) (x2 : Int) = 0 := by rw [and_nat o x2 hO64 hB1, hOB]; rfl
                  have ORR : bits BinOp.or IntKind.u64 (o : Int) (x2 : Int) = ((o ||| x2 : Nat) : Int) := or_nat o x2 hO64 hB1
                  have CT : Hid (∀ y, Calls Tryd.prog 24 #[.int .u64 x2] y fun e y' => e = .returned (.int .i64 (Ma.popF 64 x2 : Nat)) ∧ Below y.heap.size y y') := fun y => (count_any x2 y hB1).mono fun _ _ h => ⟨h.1, by rw [← h.2]; exact Below.refl _ _⟩
                  generalize Ma.popF 64 x2 = cnt at *
                  have gc1 : ¬ (B : Int) < (cnt : Int) := by omega
                  have gc2 : decide (B < cnt) = false := by simp; omega
                  clear hOi hOB hB0
                  obtain ⟨c0, c1, c2, c3, c4⟩ := cfg_cells G.out.cfg
                  go_upto_region 16 with fail
                  generalize hwx : wc = wX at *
                  have j0 := cell_regrown b0
                  have j1 := cell_regrown b1
                  have j2 := cell_regrown c1
                  have j3 := cell_regrown c2
                  have j4 := cell_regrown oc
                  have a1 := fun d os => Calls.regrown_of (CT.out (grow (redrawn wX d) os))
                  refine wp_region_quiet_below (by kernel_rfl) (by kernel_rfl) ?_
                  repeat (go_big_quiet_step (first | exact a1 _ _))
                  refine wpQuiet_nil ?_
                  intro _ hw'
                  obtain ⟨⟨dq, osq⟩, hw''⟩ := hw'
                  subst hw''
                  have G2 := Lib.hid (G.out.next (below_regrown wX dq osq))
                  have E2 := Lib.hid (E.out.next (below_regrown wX dq osq))
                  have X2 : Hid (OpBox _ nb x1 x2) := X.out.1.op.next (below_regrown wX dq osq)
                  have XN : Hid (ob ≠ nb) := X.out.2.2.1
                  clear j0 j1 j2 j3 j4 a1 oc b0 b1 c0 c1 c2 c3 c4 G E X A CT
                  generalize Sort.grow (redrawn wX dq) osq = wY at *
                  go_upto_region 18 with fail
                  clear hwx AND gc1 gc2 hcnt gx gS1 gS2 gS3
                  generalize wX = wdead at *
                  refine wp_region_noPanic ?_
                  refine wp_region_held_drew (S := fun w' => OpBox w' nb x1 x2) (by kernel_rfl) (X2.out) (fun hHeld => ?_)
                  have G3 := Lib.hid (G2.out.next ((Below.refl _ wY).drew))
                  have E3 := Lib.hid (E2.out.next ((Below.refl _ wY).drew))
                  have X3 : Hid (OpBox wY.drew nb x1 x2) := X2.out
                  clear G2 E2 X2
                  generalize wY.drew = z0 at *
                  refine wpAnyH_take (i := 0) (v := .slice (some ⟨ob, 0, none⟩) S S) rfl (by kernel_rfl) (by kernel_rfl) (by kernel_rfl) (fun _ _ _ h => h) (Or.inl ⟨by rfl, fun w hSw => by have b1 := OpBox.c1 hSw; go_simp⟩) (by assumption) ?_
                  change wpAnyH _ _ _ _ _ _ _ (Act.put _ (some 90) _) _
                  simp only [Act.put, List.setIfInBounds_toArray, List.set_cons_zero, List.set_cons_succ]
                  refine wpAnyH_take (i := 1) (v := .int .i64 (i : Nat)) rfl (by kernel_rfl) (by kernel_rfl) (by kernel_rfl) (fun _ _ _ h => h) (Or.inl ⟨by rfl, fun w hSw => by have b1 := OpBox.c1 hSw; go_simp⟩) (by assumption) ?_
                  change wpAnyH _ _ _ _ _ _ _ (Act.put _ (some 91) _) _
                  simp only [Act.put, List.setIfInBounds_toArray, List.set_cons_zero, List.set_cons_succ]
                  refine wpAnyH_take (i := 2) (v := .pointer (some ⟨ob, i, none⟩)) rfl (by kernel_rfl) (by kernel_rfl) (by kernel_rfl) (fun _ _ _ h => h) (Or.inl ⟨by rfl, fun w hSw => by have b1 := OpBox.c1 hSw; go_simp⟩) (by assumption) ?_
                  change wpAnyH _ _ _ _ _ _ _ (Act.put _ (some 92) _) _
                  simp only [Act.put, List.setIfInBounds_toArray, List.set_cons_zero, List.set_cons_succ]
                  refine wpAnyH_take (i := 4) (v := .pointer (some ⟨nb, 1, none⟩)) rfl (by kernel_rfl) (by kernel_rfl) (by kernel_rfl) (fun _ _ _ h => h) (Or.inl ⟨by rfl, fun w hSw => by have b1 := OpBox.c1 hSw; go_simp⟩) (by assumption) ?_
                  change wpAnyH _ _ _ _ _ _ _ (Act.put _ (some 94) _) _
                  simp only [Act.put, List.setIfInBounds_toArray, List.set_cons_zero, List.set_cons_succ]
                  refine wpAnyH_take (i := 5) (v := .int .u64 (x2 : Nat)) rfl (by kernel_rfl) (by kernel_rfl) (by kernel_rfl) (fun _ _ _ h => h) (Or.inl ⟨by rfl, fun w hSw => by have b1 := OpBox.c1 hSw; go_simp⟩) (by assumption) ?_
                  change wpAnyH _ _ _ _ _ _ _ (Act.put _ (some 95) _) _
                  simp only [Act.put, List.setIfInBounds_toArray, List.set_cons_zero, List.set_cons_succ]
                  refine wpAnyH_ready (rs := [3]) (by kernel_rfl) (by simp) ?_
                  refine AllReadyH.cons rfl (fun K hK => ?_) AllReadyH.nil
                  have oc := E3.out.o.at hiS
                  rw [VO.out] at oc
                  go_simp
                  refine hK.out _ _ (X3.out) (fun hHeld1 => ?_)
                  clear hK K
                  refine wpAnyH_take (i := 6) (v := .int .u64 ((o ||| x2 : Nat) : Int)) rfl (by kernel_rfl) (by kernel_rfl) (by kernel_rfl) (fun _ _ _ h => h) (Or.inl ⟨by rfl, fun w hSw => by have b1 := OpBox.c1 hSw; go_simp⟩) (by assumption) ?_
                  change wpAnyH _ _ _ _ _ _ _ (Act.put _ (some 96) _) _
                  simp only [Act.put, List.setIfInBounds_toArray, List.set_cons_zero, List.set_cons_succ]
                  refine wpAnyH_take (i := 7) (v := .pointer (some ⟨ob, i, none⟩)) rfl (by kernel_rfl) (by kernel_rfl) (by kernel_rfl) (fun _ _ _ h => h) (Or.inl ⟨by rfl, fun w hSw => by have b1 := OpBox.c1 hSw; go_simp⟩) (by assumption) ?_
                  change wpAnyH _ _ _ _ _ _ _ (Act.put _ (some 97) _) _
                  simp only [Act.put, List.setIfInBounds_toArray, List.set_cons_zero, List.set_cons_succ]
                  refine wpAnyH_ready (rs := [8]) (by kernel_rfl) (by simp) ?_
                  refine AllReadyH.cons rfl (fun K hK => ?_) AllReadyH.nil
                  have ff := frozen_of (j := i) E3.out.o
                  have GB := Lib.hid (G3.out.keO (i := i) E3.out (.int .u64 ((o ||| x2 : Nat) : Int)))
                  have EB := Lib.hid (E3.out.setO (i := i) (o ||| x2))
                  have XB : Hid (OpBox (z0.setCell ⟨ob, i, none⟩ (.int .u64 ((o ||| x2 : Nat) : Int))) nb x1 x2) := (set_other XN.out.symm _).trans X3.out
                  go_simp
                  refine hK.out _ _ (XB.out) (fun hHeldZ => ?_)
                  clear hK K oc ff XB
                  refine ⟨by kernel_rfl, ?_⟩
                  refine NoPanic.normal ?_
                  have VV := VO.out
                  subst VV
                  have G := GB
                  have E := EB
                  clear GB EB
                  go_wp2_with fail
                  go_meet
                  case rel => exact ⟨l2, _, R, G, E, GK2⟩

          · as_aux_lemma =>
              have hO64 : Hid (∀ i, i < S → O i < 18446744073709551616) := Lib.hid (fun i hi => by
                have h1 := GK.out.one i (by have := hS.out; omega)
                rcases h1 with ⟨_, h, _⟩ | ⟨_, _, h, _⟩ | ⟨_, h, _⟩ | ⟨_, h, _⟩ <;> omega)
              obtain ⟨bin, hbin⟩ : ∃ bin, decide (0 ≤ n ∧ n < (S : Int)) = bin := ⟨_, rfl⟩
              obtain ⟨D0, hD0⟩ : ∃ D, (if bin = true then m &&& O n.toNat else m) = D := ⟨_, rfl⟩
              have hD64 : D0 < 18446744073709551616 := by rw [← hD0]; split; exact Ma.and_lt _ m2; exact m2
              have HB := Lib.hid hbin
              have HD := Lib.hid hD0
              clear hD0
              go_upto_region 22 with fail
              go_cut [111] (fun u111 wx => u111 = .bool bin ∧ Hid (Su w wx M N b cb W T S B len ad cap f (l)) ∧ Hid (Ke w wx M N b cb ob rb S (O) (R)) ∧ Hid (AkBox wx MQ 2 n m a d))
              case first =>
                by_cases hin : 0 ≤ n ∧ n < (S : Int)
                · have : bin = true := by rw [← hbin]; exact decide_eq_true hin
                  subst this
                  clear hbin
                  have g0 : (0 : Int) ≤ n := by omega
                  have gS1 : n < (S : Int) := by omega
                  have gd0 : decide ((0 : Int) ≤ n) = true := by simpa using g0
                  have gdS : decide (n < (S : Int)) = true := by simpa using gS1
                  clear hin
                  go_wp2_with fail
                  go_meet
                  case rel => exact ⟨rfl, G, E, A⟩
                · have : bin = false := by rw [← hbin]; exact decide_eq_false hin
                  subst this
                  clear hbin
                  rcases (by omega : n < 0 ∨ (S : Int) ≤ n) with hneg | hbig
                  · have gd0 : decide ((0 : Int) ≤ n) = false := by simpa using hneg
                    clear hin
                    go_wp2_with fail
                    go_meet
                    case rel => exact ⟨rfl, G, E, A⟩
                  · have g0 : (0 : Int) ≤ n := by omega
                    have gd0 : decide ((0 : Int) ≤ n) = true := by simpa using g0
                    have gdS : decide (n < (S : Int)) = false := by simp; omega
                    clear hin
                    go_wp2_with fail
                    go_meet
                    case rel => exact ⟨rfl, G, E, A⟩
              case rest =>
                clear hbin c0 c1 c2 c3 c4 k0 k1 k2 G E A
                obtain ⟨rfl, G, E, A⟩ := hcut
                go_upto_if 111 with fail
                go_cut [14] (fun u14 wx => u14 = .int .u64 (D0 : Nat) ∧ Hid (Su w wx M N b cb W T S B len ad cap f (l)) ∧ Hid (Ke w wx M N b cb ob rb S (O) (R)) ∧ Hid (AkBox wx MQ 2 n m a d))
                case first =>
                  cases bin with
                  | true =>
                    have hin := of_decide_eq_true HB.out
                    obtain ⟨i, hi⟩ := Int.eq_ofNat_of_zero_le hin.1
                    have TN : n.toNat = i := by omega
                    have hiS : i < S := by omega
                    have oc := E.out.o.at hiS
                    obtain ⟨o, ho⟩ : ∃ o, O i = o := ⟨_, rfl⟩
                    have h64 := hO64.out i hiS
                    have hD := HD.out
                    rw [if_pos rfl, TN, ho] at hD
                    rw [ho] at oc h64
                    have AND : bits BinOp.and IntKind.u64 (m : Int) (o : Int) = (D0 : Int) := by rw [and_nat m o m2 h64, hD]
                    have g0 : (0 : Int) ≤ n := by omega
                    have gS1 : n < (S : Int) := by omega
                    have gd0 : decide ((0 : Int) ≤ n) = true := by simpa using g0
                    have gdS : decide (n < (S : Int)) = true := by simpa using gS1
                    clear hD ho hi hin
                    go_wp2_with fail
                    go_meet
                    case rel => exact ⟨rfl, G, E, A⟩
                  | false =>
                    have hD := HD.out
                    rw [if_neg (by simp)] at hD
                    subst hD
                    go_wp2_with fail
                    go_meet
                    case rel => exact ⟨rfl, G, E, A⟩
                case rest =>
                  clear G E A
                  obtain ⟨rfl, G, E, A⟩ := hcut
                  obtain ⟨AQ, DQ, hAQ⟩ : ∃ AQ DQ, Hid (askA 2 n = AQ ∧ askB n D0 = DQ) := ⟨_, _, rfl, rfl⟩
                  have hAQ64 : Hid (AQ < 18446744073709551616 ∧ DQ < 18446744073709551616) := by
                    have := ask_lt (k := 2) (m := D0) (n := n) (by decide) (by omega)
                    rw [hAQ.out.1, hAQ.out.2] at this
                    exact this
                  have hX : Hid (∃ l2 x1, appP (capN len f) B l (askA 2 n, askB n D0) = (l2, (x1, 0)) ∧ ((bin = true ∧ x1 = 0 ∧ D0 = 0 ∧ GoodK (capN len f) l2 O R) ∨ (bin = true ∧ x1 = 1 ∧ D0 ≠ 0 ∧ ∃ i : Nat, n = (i : Int) ∧ i < S ∧ GoodK (capN len f) l2 (fun j => if j = i then Ma.andNotN (O i) D0 else O j) R) ∨ (bin = false ∧ x1 = 0 ∧ GoodK (capN len f) l2 O R))) := Lib.hid (by
                    have hb := HB.out
                    have hD := HD.out
                    have hs := hS.out
                    by_cases hin : 0 ≤ n ∧ n < (S : Int)
                    · rw [decide_eq_true hin] at hb
                      rw [← hb, if_pos rfl] at hD
                      obtain ⟨i, hi⟩ := Int.eq_ofNat_of_zero_le hin.1
                      subst hi
                      rw [Int.toNat_natCast] at hD
                      obtain ⟨l2, x1, h1, _, h2⟩ := keep_flush (cap := capN len f) (B := B) GK.out hcap i m (by omega) few m2
                      rw [hD] at h1 h2
                      refine ⟨l2, x1, h1, ?_⟩
                      rcases h2 with ⟨a1, a2, a3⟩ | ⟨a1, a2, _, a3⟩
                      · exact .inl ⟨hb.symm, a1, a2, a3⟩
                      · exact .inr (.inl ⟨hb.symm, a1, a2, i, rfl, by omega, a3⟩)
                    · rw [decide_eq_false hin] at hb
                      exact ⟨l, 0, keep_flush_out n D0 (by omega), .inr (.inr ⟨hb.symm, rfl, GK.out⟩)⟩)
                  obtain ⟨l2, x1, hx', hcase⟩ := hX.out
                  rw [hAQ.out.1, hAQ.out.2] at hx'
                  obtain ⟨x2, hx2⟩ : ∃ x2 : Nat, x2 = 0 := ⟨0, rfl⟩
                  rw [← hx2] at hx'
                  have hx := Lib.hid hx'
                  have hC := Lib.hid hcase
                  clear hx' hcase hx2 hX
                  have OC : Hid (∀ y, FldAt y → Calls Tryd.prog 25 #[.int .i64 n, .int .u64 (D0 : Nat)] y fun e y' => e = .returned (.agg #[.int .u64 (AQ : Nat), .int .u64 (DQ : Nat)]) ∧ Below y.heap.size y y') := fun y h => by
                    have := flushOp_any n D0 y (by omega) (by omega) (Lib.hid h)
                    rw [hAQ.out.1, hAQ.out.2] at this
                    exact this
                  have AP : Hid (∀ y, Su w y M N b cb W T S B len ad cap f (l) → Calls Tryd.prog 21 #[.agg #[.int .i64 W, .int .i64 (S : Nat), .int .i64 (B : Nat), .int .i64 T, .slice (some ⟨cb, 0, none⟩) len len], .slice (some ⟨b, 0, none⟩) (2 * S) (2 * S), .agg #[.int .u64 (AQ : Nat), .int .u64 (DQ : Nat)]] y fun e y' => e = .returned (.agg #[.int .u64 (x1 : Nat), .int .u64 (x2 : Nat)]) ∧ Su w y' M N b cb W T S B len ad cap f (l2) ∧ Only [b] y y') := fun y h => h.asks (c := 2 * S) hAQ64.out.1 hAQ64.out.2 hx.out
                  go_upto_region 24 with fail
                  go_cut [15] (fun u15 wx => ∃ nb, u15 = .pointer (some ⟨nb, 0, none⟩) ∧ Hid (Su w wx M N b cb W T S B len ad cap f (l2)) ∧ Hid (Bx w wx nb x1 x2 N b cb ∧ nb ≠ M ∧ ob ≠ nb ∧ rb ≠ nb ∧ MQ ≠ nb) ∧ Hid (Ke w wx M N b cb ob rb S (O) (R)) ∧ Hid (AkBox wx MQ 2 n m a d))
                  case first =>
                    as_aux_lemma =>
                      refine wp_region_noPanic ?_
                      refine wp_region_held_drew (S := fun w' => HBox w' N W (S : Nat) (B : Nat) T (.slice (some ⟨cb, 0, none⟩) len len) ∧ AkBox w' MQ 2 n m a d) (by kernel_rfl) (⟨G.out.sp.box, A.out⟩) (fun hHeld => ?_)
                      have DR := (Below.refl wc.heap.size wc).drew
                      have G0 := Lib.hid (G.out.next DR)
                      have E0 := Lib.hid (E.out.next DR)
                      have A0 := Lib.hid (AkBox.next A.out DR)
                      clear DR
                      generalize wc.drew = z0 at *
                      refine wpAnyH_take (i := 0) (v := .agg #[.int .i64 W, .int .i64 (S : Nat), .int .i64 (B : Nat), .int .i64 T, .slice (some ⟨cb, 0, none⟩) len len]) rfl (by kernel_rfl) (by kernel_rfl) (by kernel_rfl) (fun _ _ _ h => h) (Or.inl ⟨by rfl, fun w hSw => by obtain ⟨hB, hA⟩ := hSw; have c0 := HBox.c0 hB; have c1 := HBox.c1 hB; have c2 := HBox.c2 hB; have c3 := HBox.c3 hB; have c4 := HBox.c4 hB; have a0 := AkBox.c0 hA; have a1 := AkBox.c1 hA; have a2 := AkBox.c2 hA; go_simp⟩) (by assumption) ?_
                      change wpAnyH _ _ _ _ _ _ _ (Act.put _ (some 118) _) _
                      simp only [Act.put, List.setIfInBounds_toArray, List.set_cons_zero, List.set_cons_succ]
                      refine wpAnyH_take (i := 1) (v := .slice (some ⟨b, 0, none⟩) (2 * S) (2 * S)) rfl (by kernel_rfl) (by kernel_rfl) (by kernel_rfl) (fun _ _ _ h => h) (Or.inl ⟨by rfl, fun w hSw => by obtain ⟨hB, hA⟩ := hSw; have c0 := HBox.c0 hB; have c1 := HBox.c1 hB; have c2 := HBox.c2 hB; have c3 := HBox.c3 hB; have c4 := HBox.c4 hB; have a0 := AkBox.c0 hA; have a1 := AkBox.c1 hA; have a2 := AkBox.c2 hA; go_simp⟩) (by assumption) ?_
                      change wpAnyH _ _ _ _ _ _ _ (Act.put _ (some 119) _) _
                      simp only [Act.put, List.setIfInBounds_toArray, List.set_cons_zero, List.set_cons_succ]
                      refine wpAnyH_take (i := 2) (v := .int .i64 n) rfl (by kernel_rfl) (by kernel_rfl) (by kernel_rfl) (fun _ _ _ h => h) (Or.inl ⟨by rfl, fun w hSw => by obtain ⟨hB, hA⟩ := hSw; have c0 := HBox.c0 hB; have c1 := HBox.c1 hB; have c2 := HBox.c2 hB; have c3 := HBox.c3 hB; have c4 := HBox.c4 hB; have a0 := AkBox.c0 hA; have a1 := AkBox.c1 hA; have a2 := AkBox.c2 hA; go_simp⟩) (by assumption) ?_
                      change wpAnyH _ _ _ _ _ _ _ (Act.put _ (some 120) _) _
                      simp only [Act.put, List.setIfInBounds_toArray, List.set_cons_zero, List.set_cons_succ]
                      refine wpAnyH_take (i := 3) (v := .int .u64 (D0 : Nat)) rfl (by kernel_rfl) (by kernel_rfl) (by kernel_rfl) (fun _ _ _ h => h) (Or.inl ⟨by rfl, fun w hSw => by obtain ⟨hB, hA⟩ := hSw; have c0 := HBox.c0 hB; have c1 := HBox.c1 hB; have c2 := HBox.c2 hB; have c3 := HBox.c3 hB; have c4 := HBox.c4 hB; have a0 := AkBox.c0 hA; have a1 := AkBox.c1 hA; have a2 := AkBox.c2 hA; go_simp⟩) (by assumption) ?_
                      change wpAnyH _ _ _ _ _ _ _ (Act.put _ (some 121) _) _
                      simp only [Act.put, List.setIfInBounds_toArray, List.set_cons_zero, List.set_cons_succ]
                      refine wpAnyH_ready (rs := [4, 6]) (by kernel_rfl) (by simp) ?_
                      refine AllReadyH.cons rfl (fun K hK => ?_) (AllReadyH.cons rfl (fun K hK => ?_) (AllReadyH.nil))
                      · refine step_enter (F := 25) (vals := #[.int .i64 n, .int .u64 (D0 : Nat)]) rfl (by kernel_rfl) ?_
                        refine (OC.out _ G0.out.sp.fl).mono ?_
                        rintro e y2 ⟨rfl, hb⟩
                        have G2 := Lib.hid (G0.out.next hb)
                        have E2 := Lib.hid (E0.out.next hb)
                        have A2 := Lib.hid (AkBox.next A0.out hb)
                        clear hb
                        show K (Act.put _ (some 122) _) y2
                        refine hK.out _ _ (⟨G2.out.sp.box, A2.out⟩) (fun _ => ?_)
                        clear hK K
                        refine wpAnyH_ready (rs := [5, 6]) (by kernel_rfl) (by simp) ?_
                        refine AllReadyH.cons rfl (fun K hK => ?_) (AllReadyH.cons rfl (fun K hK => ?_) (AllReadyH.nil))
                        · refine step_enter (F := 21) (vals := #[.agg #[.int .i64 W, .int .i64 (S : Nat), .int .i64 (B : Nat), .int .i64 T, .slice (some ⟨cb, 0, none⟩) len len], .slice (some ⟨b, 0, none⟩) (2 * S) (2 * S), .agg #[.int .u64 (AQ : Nat), .int .u64 (DQ : Nat)]]) rfl (by kernel_rfl) ?_
                          refine (AP.out _ G2.out).mono ?_
                          rintro e y4 ⟨rfl, hg, ho⟩
                          have G4 := Lib.hid hg
                          have E4 := Lib.hid (E2.out.stay ho (by have := E2.out.ne; simp; omega))
                          have A4 := Lib.hid (ho.at A2.out (by simp; omega))
                          clear hg ho
                          show K (Act.put _ (some 123) _) y4
                          refine hK.out _ _ (⟨G4.out.sp.box, A4.out⟩) (fun _ => ?_)
                          clear hK K
                          refine wpAnyH_ready (rs := [6]) (by kernel_rfl) (by simp) ?_
                          refine AllReadyH.cons rfl (fun K hK => ?_) (AllReadyH.nil)
                          · refine step_value (v := .pointer (some ⟨y4.heap.size, 0, none⟩)) (w' := y4.alloc (.cells #[.int .u64 0, .int .u64 0] 37)) rfl (by kernel_rfl) ?_
                            have hb := box1 y4 (.cells #[.int .u64 0, .int .u64 0] 37)
                            have G6 := Lib.hid (G4.out.next hb)
                            have X6 : Hid (Bx w (y4.alloc (.cells #[.int .u64 0, .int .u64 0] 37)) y4.heap.size 0 0 N b cb ∧ y4.heap.size ≠ M ∧ ob ≠ y4.heap.size ∧ rb ≠ y4.heap.size ∧ MQ ≠ y4.heap.size) := ⟨G4.out.alloc.1, G4.out.alloc.2, ⟨Nat.ne_of_lt (heap_lt E4.out.o), Nat.ne_of_lt (heap_lt E4.out.r), Nat.ne_of_lt (heap_lt A4.out)⟩⟩
                            have E6 := Lib.hid (E4.out.next hb)
                            have A6 := Lib.hid (AkBox.next A4.out hb)
                            clear hb
                            generalize y4.alloc (.cells #[.int .u64 0, .int .u64 0] 37) = y6 at *
                            generalize y4.heap.size = nb at *
                            show K (Act.put _ (some 15) _) y6
                            refine hK.out _ _ (⟨G6.out.sp.box, A6.out⟩) (fun _ => ?_)
                            clear hK K
                            refine wpAnyH_ready (rs := [7]) (by kernel_rfl) (by simp) ?_
                            refine AllReadyH.cons rfl (fun K hK => ?_) AllReadyH.nil
                            have z0 := X6.out.1.op.z0
                            have z1 := X6.out.1.op.z1
                            have f0 := frozen_of (j := 0) X6.out.1.op
                            have f1 := frozen_of (j := 1) X6.out.1.op
                            have nn := X6.out.1.ne
                            have nM := X6.out.2.1
                            have nX := X6.out.2.2
                            have OO := only_op (w := y6) (n := nb) (.int .u64 (x1 : Nat)) (.int .u64 (x2 : Nat))
                            have GZ := Lib.hid (G6.out.stay OO (by simp; omega))
                            have XZ : Hid (Bx w _ nb (x1) (x2) N b cb ∧ nb ≠ M ∧ ob ≠ nb ∧ rb ≠ nb ∧ MQ ≠ nb) := ⟨⟨X6.out.1.op.set (x1) (x2), nn⟩, nM, nX⟩
                            have EZ := Lib.hid (E6.out.stay OO (by have := E6.out.ne; simp; omega))
                            have AZ := Lib.hid (OO.at A6.out (by simp; omega))
                            go_simp
                            refine hK.out _ _ (⟨GZ.out.sp.box, AZ.out⟩) (fun _ => ?_)
                            refine ⟨by kernel_rfl, ?_⟩
                            refine NoPanic.normal ?_
                            go_wp2_with fail
                            go_meet
                            case rel => exact ⟨nb, rfl, GZ, XZ, EZ, AZ⟩

                        · refine step_value (v := .pointer (some ⟨y2.heap.size, 0, none⟩)) (w' := y2.alloc (.cells #[.int .u64 0, .int .u64 0] 37)) rfl (by kernel_rfl) ?_
                          have hb := box1 y2 (.cells #[.int .u64 0, .int .u64 0] 37)
                          have G8 := Lib.hid (G2.out.next hb)
                          have X8 : Hid (Bx w (y2.alloc (.cells #[.int .u64 0, .int .u64 0] 37)) y2.heap.size 0 0 N b cb ∧ y2.heap.size ≠ M ∧ ob ≠ y2.heap.size ∧ rb ≠ y2.heap.size ∧ MQ ≠ y2.heap.size) := ⟨G2.out.alloc.1, G2.out.alloc.2, ⟨Nat.ne_of_lt (heap_lt E2.out.o), Nat.ne_of_lt (heap_lt E2.out.r), Nat.ne_of_lt (heap_lt A2.out)⟩⟩
                          have E8 := Lib.hid (E2.out.next hb)
                          have A8 := Lib.hid (AkBox.next A2.out hb)
                          clear hb
                          generalize y2.alloc (.cells #[.int .u64 0, .int .u64 0] 37) = y8 at *
                          generalize y2.heap.size = nb at *
                          show K (Act.put _ (some 15) _) y8
                          refine hK.out _ _ (⟨G8.out.sp.box, A8.out⟩) (fun _ => ?_)
                          clear hK K
                          refine wpAnyH_ready (rs := [5]) (by kernel_rfl) (by simp) ?_
                          refine AllReadyH.cons rfl (fun K hK => ?_) (AllReadyH.nil)
                          · refine step_enter (F := 21) (vals := #[.agg #[.int .i64 W, .int .i64 (S : Nat), .int .i64 (B : Nat), .int .i64 T, .slice (some ⟨cb, 0, none⟩) len len], .slice (some ⟨b, 0, none⟩) (2 * S) (2 * S), .agg #[.int .u64 (AQ : Nat), .int .u64 (DQ : Nat)]]) rfl (by kernel_rfl) ?_
                            refine (AP.out _ G8.out).mono ?_
                            rintro e y10 ⟨rfl, hg, ho⟩
                            have G10 := Lib.hid hg
                            have nn := X8.out.1.ne
                            have X10 : Hid (Bx w y10 nb 0 0 N b cb ∧ nb ≠ M ∧ ob ≠ nb ∧ rb ≠ nb ∧ MQ ≠ nb) := ⟨X8.out.1.stay ho (by simp; omega), X8.out.2⟩
                            have E10 := Lib.hid (E8.out.stay ho (by have := E8.out.ne; simp; omega))
                            have A10 := Lib.hid (ho.at A8.out (by simp; omega))
                            clear hg ho
                            show K (Act.put _ (some 123) _) y10
                            refine hK.out _ _ (⟨G10.out.sp.box, A10.out⟩) (fun _ => ?_)
                            clear hK K
                            refine wpAnyH_ready (rs := [7]) (by kernel_rfl) (by simp) ?_
                            refine AllReadyH.cons rfl (fun K hK => ?_) AllReadyH.nil
                            have z0 := X10.out.1.op.z0
                            have z1 := X10.out.1.op.z1
                            have f0 := frozen_of (j := 0) X10.out.1.op
                            have f1 := frozen_of (j := 1) X10.out.1.op
                            have nn := X10.out.1.ne
                            have nM := X10.out.2.1
                            have nX := X10.out.2.2
                            have OO := only_op (w := y10) (n := nb) (.int .u64 (x1 : Nat)) (.int .u64 (x2 : Nat))
                            have GZ := Lib.hid (G10.out.stay OO (by simp; omega))
                            have XZ : Hid (Bx w _ nb (x1) (x2) N b cb ∧ nb ≠ M ∧ ob ≠ nb ∧ rb ≠ nb ∧ MQ ≠ nb) := ⟨⟨X10.out.1.op.set (x1) (x2), nn⟩, nM, nX⟩
                            have EZ := Lib.hid (E10.out.stay OO (by have := E10.out.ne; simp; omega))
                            have AZ := Lib.hid (OO.at A10.out (by simp; omega))
                            go_simp
                            refine hK.out _ _ (⟨GZ.out.sp.box, AZ.out⟩) (fun _ => ?_)
                            refine ⟨by kernel_rfl, ?_⟩
                            refine NoPanic.normal ?_
                            go_wp2_with fail
                            go_meet
                            case rel => exact ⟨nb, rfl, GZ, XZ, EZ, AZ⟩


                      · refine step_value (v := .pointer (some ⟨z0.heap.size, 0, none⟩)) (w' := z0.alloc (.cells #[.int .u64 0, .int .u64 0] 37)) rfl (by kernel_rfl) ?_
                        have hb := box1 z0 (.cells #[.int .u64 0, .int .u64 0] 37)
                        have G12 := Lib.hid (G0.out.next hb)
                        have X12 : Hid (Bx w (z0.alloc (.cells #[.int .u64 0, .int .u64 0] 37)) z0.heap.size 0 0 N b cb ∧ z0.heap.size ≠ M ∧ ob ≠ z0.heap.size ∧ rb ≠ z0.heap.size ∧ MQ ≠ z0.heap.size) := ⟨G0.out.alloc.1, G0.out.alloc.2, ⟨Nat.ne_of_lt (heap_lt E0.out.o), Nat.ne_of_lt (heap_lt E0.out.r), Nat.ne_of_lt (heap_lt A0.out)⟩⟩
                        have E12 := Lib.hid (E0.out.next hb)
                        have A12 := Lib.hid (AkBox.next A0.out hb)
                        clear hb
                        generalize z0.alloc (.cells #[.int .u64 0, .int .u64 0] 37) = y12 at *
                        generalize z0.heap.size = nb at *
                        show K (Act.put _ (some 15) _) y12
                        refine hK.out _ _ (⟨G12.out.sp.box, A12.out⟩) (fun _ => ?_)
                        clear hK K
                        refine wpAnyH_ready (rs := [4]) (by kernel_rfl) (by simp) ?_
                        refine AllReadyH.cons rfl (fun K hK => ?_) (AllReadyH.nil)
                        · refine step_enter (F := 25) (vals := #[.int .i64 n, .int .u64 (D0 : Nat)]) rfl (by kernel_rfl) ?_
                          refine (OC.out _ G12.out.sp.fl).mono ?_
                          rintro e y14 ⟨rfl, hb⟩
                          have G14 := Lib.hid (G12.out.next hb)
                          have X14 : Hid (Bx w y14 nb 0 0 N b cb ∧ nb ≠ M ∧ ob ≠ nb ∧ rb ≠ nb ∧ MQ ≠ nb) := ⟨X12.out.1.next hb, X12.out.2⟩
                          have E14 := Lib.hid (E12.out.next hb)
                          have A14 := Lib.hid (AkBox.next A12.out hb)
                          clear hb
                          show K (Act.put _ (some 122) _) y14
                          refine hK.out _ _ (⟨G14.out.sp.box, A14.out⟩) (fun _ => ?_)
                          clear hK K
                          refine wpAnyH_ready (rs := [5]) (by kernel_rfl) (by simp) ?_
                          refine AllReadyH.cons rfl (fun K hK => ?_) (AllReadyH.nil)
                          · refine step_enter (F := 21) (vals := #[.agg #[.int .i64 W, .int .i64 (S : Nat), .int .i64 (B : Nat), .int .i64 T, .slice (some ⟨cb, 0, none⟩) len len], .slice (some ⟨b, 0, none⟩) (2 * S) (2 * S), .agg #[.int .u64 (AQ : Nat), .int .u64 (DQ : Nat)]]) rfl (by kernel_rfl) ?_
                            refine (AP.out _ G14.out).mono ?_
                            rintro e y16 ⟨rfl, hg, ho⟩
                            have G16 := Lib.hid hg
                            have nn := X14.out.1.ne
                            have X16 : Hid (Bx w y16 nb 0 0 N b cb ∧ nb ≠ M ∧ ob ≠ nb ∧ rb ≠ nb ∧ MQ ≠ nb) := ⟨X14.out.1.stay ho (by simp; omega), X14.out.2⟩
                            have E16 := Lib.hid (E14.out.stay ho (by have := E14.out.ne; simp; omega))
                            have A16 := Lib.hid (ho.at A14.out (by simp; omega))
                            clear hg ho
                            show K (Act.put _ (some 123) _) y16
                            refine hK.out _ _ (⟨G16.out.sp.box, A16.out⟩) (fun _ => ?_)
                            clear hK K
                            refine wpAnyH_ready (rs := [7]) (by kernel_rfl) (by simp) ?_
                            refine AllReadyH.cons rfl (fun K hK => ?_) AllReadyH.nil
                            have z0 := X16.out.1.op.z0
                            have z1 := X16.out.1.op.z1
                            have f0 := frozen_of (j := 0) X16.out.1.op
                            have f1 := frozen_of (j := 1) X16.out.1.op
                            have nn := X16.out.1.ne
                            have nM := X16.out.2.1
                            have nX := X16.out.2.2
                            have OO := only_op (w := y16) (n := nb) (.int .u64 (x1 : Nat)) (.int .u64 (x2 : Nat))
                            have GZ := Lib.hid (G16.out.stay OO (by simp; omega))
                            have XZ : Hid (Bx w _ nb (x1) (x2) N b cb ∧ nb ≠ M ∧ ob ≠ nb ∧ rb ≠ nb ∧ MQ ≠ nb) := ⟨⟨X16.out.1.op.set (x1) (x2), nn⟩, nM, nX⟩
                            have EZ := Lib.hid (E16.out.stay OO (by have := E16.out.ne; simp; omega))
                            have AZ := Lib.hid (OO.at A16.out (by simp; omega))
                            go_simp
                            refine hK.out _ _ (⟨GZ.out.sp.box, AZ.out⟩) (fun _ => ?_)
                            refine ⟨by kernel_rfl, ?_⟩
                            refine NoPanic.normal ?_
                            go_wp2_with fail
                            go_meet
                            case rel => exact ⟨nb, rfl, GZ, XZ, EZ, AZ⟩
                  case rest =>
                    obtain ⟨nb, rfl, G, X, E, A⟩ := hcut
                    clear OC AP
                    have b0 := X.out.1.op.c0
                    obtain ⟨c0, c1, c2, c3, c4⟩ := cfg_cells G.out.cfg
                    rcases hC.out with ⟨hb, h1, h2, gk⟩ | ⟨hb, h1, h2, i, hi, hiS, gk⟩ | ⟨hb, h1, gk⟩
                    · have GK2 := Lib.hid gk
                      have hin := of_decide_eq_true (HB.out.trans hb)
                      have gx1e : ((x1 : Int) == 1) = false := by simp; omega
                      have gx1n : ((x1 : Int) != 1) = true := by simp; omega
                      have gD0e : ((D0 : Int) == 0) = true := by simp; omega
                      have gD0n : ((D0 : Int) != 0) = false := by simp; omega
                      have g0 : (0 : Int) ≤ n := by omega
                      have gS1 : n < (S : Int) := by omega
                      have gd0 : decide ((0 : Int) ≤ n) = true := by simpa using g0
                      have gdS : decide (n < (S : Int)) = true := by simpa using gS1
                      clear h1 h2 gk hb hin
                      go_wp2_with fail
                      go_meet
                      case rel => exact ⟨l2, O, R, G, E, GK2⟩
                    · have GK2 := Lib.hid gk
                      have hin := of_decide_eq_true (HB.out.trans hb)
                      have TN : n.toNat = i := by omega
                      have oc := E.out.o.at hiS
                      obtain ⟨o, ho⟩ : ∃ o, O i = o := ⟨_, rfl⟩
                      have VO := Lib.hid ho
                      have h64 := hO64.out i hiS
                      rw [ho] at oc h64
                      have ANDN : bits BinOp.andNot IntKind.u64 (o : Int) (D0 : Int) = ((Ma.andNotN o D0 : Nat) : Int) := andNot_nat o D0 h64 hD64
                      have ff := frozen_of (j := i) E.out.o
                      have gx1e : ((x1 : Int) == 1) = true := by simp; omega
                      have gx1n : ((x1 : Int) != 1) = false := by simp; omega
                      have gD0e : ((D0 : Int) == 0) = false := by simp; omega
                      have gD0n : ((D0 : Int) != 0) = true := by simp; omega
                      have g0 : (0 : Int) ≤ n := by omega
                      have gS1 : n < (S : Int) := by omega
                      have gd0 : decide ((0 : Int) ≤ n) = true := by simpa using g0
                      have gdS : decide (n < (S : Int)) = true := by simpa using gS1
                      clear h1 h2 gk hb hin hi ho
                      go_wp2_with fail
                      go_meet
                      case rel => exact ⟨l2, _, R, Lib.hid (G.out.keO E.out _), Lib.hid (E.out.setO (Ma.andNotN o D0)), by rw [← VO.out]; exact GK2⟩
                    · have GK2 := Lib.hid gk
                      have hout := of_decide_eq_false (HB.out.trans hb)
                      have gx1e : ((x1 : Int) == 1) = false := by simp; omega
                      have gx1n : ((x1 : Int) != 1) = true := by simp; omega
                      clear h1 gk hb
                      rcases (by omega : n < 0 ∨ (S : Int) ≤ n) with hneg | hbig
                      · have gd0 : decide ((0 : Int) ≤ n) = false := by simpa using hneg
                        clear hout
                        go_wp2_with fail
                        go_meet
                        case rel => exact ⟨l2, O, R, G, E, GK2⟩
                      · have g0 : (0 : Int) ≤ n := by omega
                        have gd0 : decide ((0 : Int) ≤ n) = true := by simpa using g0
                        have gdS : decide (n < (S : Int)) = false := by simp; omega
                        clear hout
                        go_wp2_with fail
                        go_meet
                        case rel => exact ⟨l2, O, R, G, E, GK2⟩

          · as_aux_lemma =>
              obtain ⟨AQ, DQ, hAQ⟩ : ∃ AQ DQ, Hid (askA 3 n = AQ ∧ askB n 0 = DQ) := ⟨_, _, rfl, rfl⟩
              have hAQ64 : Hid (AQ < 18446744073709551616 ∧ DQ < 18446744073709551616) := by
                have := ask_lt (k := 3) (m := 0) (n := n) (by decide) (by omega)
                rw [hAQ.out.1, hAQ.out.2] at this
                exact this
              obtain ⟨l2, x1, hx', hlen, hcase⟩ := keep_take (cap := capN len f) (B := B) GK.out n
              rw [hAQ.out.1, hAQ.out.2] at hx'
              obtain ⟨x2, hx2⟩ : ∃ x2 : Nat, x2 = 0 := ⟨0, rfl⟩
              rw [← hx2] at hx'
              have hx := Lib.hid hx'
              have hC := Lib.hid hcase
              clear hx' hcase hlen hx2
              have OC : Hid (∀ y, FldAt y → Calls Tryd.prog 26 #[.int .i64 n] y fun e y' => e = .returned (.agg #[.int .u64 (AQ : Nat), .int .u64 (DQ : Nat)]) ∧ Below y.heap.size y y') := fun y h => by
                have := takeOp_any n y (by omega) (by omega) (Lib.hid h)
                rw [hAQ.out.1, hAQ.out.2] at this
                exact this
              have AP : Hid (∀ y, Su w y M N b cb W T S B len ad cap f (l) → Calls Tryd.prog 21 #[.agg #[.int .i64 W, .int .i64 (S : Nat), .int .i64 (B : Nat), .int .i64 T, .slice (some ⟨cb, 0, none⟩) len len], .slice (some ⟨b, 0, none⟩) (2 * S) (2 * S), .agg #[.int .u64 (AQ : Nat), .int .u64 (DQ : Nat)]] y fun e y' => e = .returned (.agg #[.int .u64 (x1 : Nat), .int .u64 (x2 : Nat)]) ∧ Su w y' M N b cb W T S B len ad cap f (l2) ∧ Only [b] y y') := fun y h => h.asks (c := 2 * S) hAQ64.out.1 hAQ64.out.2 hx.out
              go_upto_region 30 with fail
              go_cut [16] (fun u16 wx => ∃ nb, u16 = .pointer (some ⟨nb, 0, none⟩) ∧ Hid (Su w wx M N b cb W T S B len ad cap f (l2)) ∧ Hid (Bx w wx nb x1 x2 N b cb ∧ nb ≠ M ∧ ob ≠ nb ∧ rb ≠ nb ∧ MQ ≠ nb) ∧ Hid (Ke w wx M N b cb ob rb S (O) (R)) ∧ Hid (AkBox wx MQ 3 n m a d))
              case first =>
                as_aux_lemma =>
                  refine wp_region_noPanic ?_
                  refine wp_region_held_drew (S := fun w' => HBox w' N W (S : Nat) (B : Nat) T (.slice (some ⟨cb, 0, none⟩) len len) ∧ AkBox w' MQ 3 n m a d) (by kernel_rfl) (⟨G.out.sp.box, A.out⟩) (fun hHeld => ?_)
                  have DR := (Below.refl wQ.heap.size wQ).drew
                  have G0 := Lib.hid (G.out.next DR)
                  have E0 := Lib.hid (E.out.next DR)
                  have A0 := Lib.hid (AkBox.next A.out DR)
                  clear DR
                  generalize wQ.drew = z0 at *
                  refine wpAnyH_take (i := 0) (v := .agg #[.int .i64 W, .int .i64 (S : Nat), .int .i64 (B : Nat), .int .i64 T, .slice (some ⟨cb, 0, none⟩) len len]) rfl (by kernel_rfl) (by kernel_rfl) (by kernel_rfl) (fun _ _ _ h => h) (Or.inl ⟨by rfl, fun w hSw => by obtain ⟨hB, hA⟩ := hSw; have c0 := HBox.c0 hB; have c1 := HBox.c1 hB; have c2 := HBox.c2 hB; have c3 := HBox.c3 hB; have c4 := HBox.c4 hB; have a0 := AkBox.c0 hA; have a1 := AkBox.c1 hA; have a2 := AkBox.c2 hA; go_simp⟩) (by assumption) ?_
                  change wpAnyH _ _ _ _ _ _ _ (Act.put _ (some 152) _) _
                  simp only [Act.put, List.setIfInBounds_toArray, List.set_cons_zero, List.set_cons_succ]
                  refine wpAnyH_take (i := 1) (v := .slice (some ⟨b, 0, none⟩) (2 * S) (2 * S)) rfl (by kernel_rfl) (by kernel_rfl) (by kernel_rfl) (fun _ _ _ h => h) (Or.inl ⟨by rfl, fun w hSw => by obtain ⟨hB, hA⟩ := hSw; have c0 := HBox.c0 hB; have c1 := HBox.c1 hB; have c2 := HBox.c2 hB; have c3 := HBox.c3 hB; have c4 := HBox.c4 hB; have a0 := AkBox.c0 hA; have a1 := AkBox.c1 hA; have a2 := AkBox.c2 hA; go_simp⟩) (by assumption) ?_
                  change wpAnyH _ _ _ _ _ _ _ (Act.put _ (some 153) _) _
                  simp only [Act.put, List.setIfInBounds_toArray, List.set_cons_zero, List.set_cons_succ]
                  refine wpAnyH_take (i := 2) (v := .pointer (some ⟨MQ, 1, none⟩)) rfl (by kernel_rfl) (by kernel_rfl) (by kernel_rfl) (fun _ _ _ h => h) (Or.inl ⟨by rfl, fun w hSw => by obtain ⟨hB, hA⟩ := hSw; have c0 := HBox.c0 hB; have c1 := HBox.c1 hB; have c2 := HBox.c2 hB; have c3 := HBox.c3 hB; have c4 := HBox.c4 hB; have a0 := AkBox.c0 hA; have a1 := AkBox.c1 hA; have a2 := AkBox.c2 hA; go_simp⟩) (by assumption) ?_
                  change wpAnyH _ _ _ _ _ _ _ (Act.put _ (some 154) _) _
                  simp only [Act.put, List.setIfInBounds_toArray, List.set_cons_zero, List.set_cons_succ]
                  refine wpAnyH_take (i := 3) (v := .int .i64 n) rfl (by kernel_rfl) (by kernel_rfl) (by kernel_rfl) (fun _ _ _ h => h) (Or.inl ⟨by rfl, fun w hSw => by obtain ⟨hB, hA⟩ := hSw; have c0 := HBox.c0 hB; have c1 := HBox.c1 hB; have c2 := HBox.c2 hB; have c3 := HBox.c3 hB; have c4 := HBox.c4 hB; have a0 := AkBox.c0 hA; have a1 := AkBox.c1 hA; have a2 := AkBox.c2 hA; go_simp⟩) (by assumption) ?_
                  change wpAnyH _ _ _ _ _ _ _ (Act.put _ (some 155) _) _
                  simp only [Act.put, List.setIfInBounds_toArray, List.set_cons_zero, List.set_cons_succ]
                  refine wpAnyH_ready (rs := [4, 6]) (by kernel_rfl) (by simp) ?_
                  refine AllReadyH.cons rfl (fun K hK => ?_) (AllReadyH.cons rfl (fun K hK => ?_) (AllReadyH.nil))
                  · refine step_enter (F := 26) (vals := #[.int .i64 n]) rfl (by kernel_rfl) ?_
                    refine (OC.out _ G0.out.sp.fl).mono ?_
                    rintro e y2 ⟨rfl, hb⟩
                    have G2 := Lib.hid (G0.out.next hb)
                    have E2 := Lib.hid (E0.out.next hb)
                    have A2 := Lib.hid (AkBox.next A0.out hb)
                    clear hb
                    show K (Act.put _ (some 156) _) y2
                    refine hK.out _ _ (⟨G2.out.sp.box, A2.out⟩) (fun _ => ?_)
                    clear hK K
                    refine wpAnyH_ready (rs := [5, 6]) (by kernel_rfl) (by simp) ?_
                    refine AllReadyH.cons rfl (fun K hK => ?_) (AllReadyH.cons rfl (fun K hK => ?_) (AllReadyH.nil))
                    · refine step_enter (F := 21) (vals := #[.agg #[.int .i64 W, .int .i64 (S : Nat), .int .i64 (B : Nat), .int .i64 T, .slice (some ⟨cb, 0, none⟩) len len], .slice (some ⟨b, 0, none⟩) (2 * S) (2 * S), .agg #[.int .u64 (AQ : Nat), .int .u64 (DQ : Nat)]]) rfl (by kernel_rfl) ?_
                      refine (AP.out _ G2.out).mono ?_
                      rintro e y4 ⟨rfl, hg, ho⟩
                      have G4 := Lib.hid hg
                      have E4 := Lib.hid (E2.out.stay ho (by have := E2.out.ne; simp; omega))
                      have A4 := Lib.hid (ho.at A2.out (by simp; omega))
                      clear hg ho
                      show K (Act.put _ (some 157) _) y4
                      refine hK.out _ _ (⟨G4.out.sp.box, A4.out⟩) (fun _ => ?_)
                      clear hK K
                      refine wpAnyH_ready (rs := [6]) (by kernel_rfl) (by simp) ?_
                      refine AllReadyH.cons rfl (fun K hK => ?_) (AllReadyH.nil)
                      · refine step_value (v := .pointer (some ⟨y4.heap.size, 0, none⟩)) (w' := y4.alloc (.cells #[.int .u64 0, .int .u64 0] 37)) rfl (by kernel_rfl) ?_
                        have hb := box1 y4 (.cells #[.int .u64 0, .int .u64 0] 37)
                        have G6 := Lib.hid (G4.out.next hb)
                        have X6 : Hid (Bx w (y4.alloc (.cells #[.int .u64 0, .int .u64 0] 37)) y4.heap.size 0 0 N b cb ∧ y4.heap.size ≠ M ∧ ob ≠ y4.heap.size ∧ rb ≠ y4.heap.size ∧ MQ ≠ y4.heap.size) := ⟨G4.out.alloc.1, G4.out.alloc.2, ⟨Nat.ne_of_lt (heap_lt E4.out.o), Nat.ne_of_lt (heap_lt E4.out.r), Nat.ne_of_lt (heap_lt A4.out)⟩⟩
                        have E6 := Lib.hid (E4.out.next hb)
                        have A6 := Lib.hid (AkBox.next A4.out hb)
                        clear hb
                        generalize y4.alloc (.cells #[.int .u64 0, .int .u64 0] 37) = y6 at *
                        generalize y4.heap.size = nb at *
                        show K (Act.put _ (some 16) _) y6
                        refine hK.out _ _ (⟨G6.out.sp.box, A6.out⟩) (fun _ => ?_)
                        clear hK K
                        refine wpAnyH_ready (rs := [7]) (by kernel_rfl) (by simp) ?_
                        refine AllReadyH.cons rfl (fun K hK => ?_) AllReadyH.nil
                        have z0 := X6.out.1.op.z0
                        have z1 := X6.out.1.op.z1
                        have f0 := frozen_of (j := 0) X6.out.1.op
                        have f1 := frozen_of (j := 1) X6.out.1.op
                        have nn := X6.out.1.ne
                        have nM := X6.out.2.1
                        have nX := X6.out.2.2
                        have OO := only_op (w := y6) (n := nb) (.int .u64 (x1 : Nat)) (.int .u64 (x2 : Nat))
                        have GZ := Lib.hid (G6.out.stay OO (by simp; omega))
                        have XZ : Hid (Bx w _ nb (x1) (x2) N b cb ∧ nb ≠ M ∧ ob ≠ nb ∧ rb ≠ nb ∧ MQ ≠ nb) := ⟨⟨X6.out.1.op.set (x1) (x2), nn⟩, nM, nX⟩
                        have EZ := Lib.hid (E6.out.stay OO (by have := E6.out.ne; simp; omega))
                        have AZ := Lib.hid (OO.at A6.out (by simp; omega))
                        go_simp
                        refine hK.out _ _ (⟨GZ.out.sp.box, AZ.out⟩) (fun _ => ?_)
                        refine ⟨by kernel_rfl, ?_⟩
                        refine NoPanic.normal ?_
                        go_wp2_with fail
                        go_meet
                        case rel => exact ⟨nb, rfl, GZ, XZ, EZ, AZ⟩

                    · refine step_value (v := .pointer (some ⟨y2.heap.size, 0, none⟩)) (w' := y2.alloc (.cells #[.int .u64 0, .int .u64 0] 37)) rfl (by kernel_rfl) ?_
                      have hb := box1 y2 (.cells #[.int .u64 0, .int .u64 0] 37)
                      have G8 := Lib.hid (G2.out.next hb)
                      have X8 : Hid (Bx w (y2.alloc (.cells #[.int .u64 0, .int .u64 0] 37)) y2.heap.size 0 0 N b cb ∧ y2.heap.size ≠ M ∧ ob ≠ y2.heap.size ∧ rb ≠ y2.heap.size ∧ MQ ≠ y2.heap.size) := ⟨G2.out.alloc.1, G2.out.alloc.2, ⟨Nat.ne_of_lt (heap_lt E2.out.o), Nat.ne_of_lt (heap_lt E2.out.r), Nat.ne_of_lt (heap_lt A2.out)⟩⟩
                      have E8 := Lib.hid (E2.out.next hb)
                      have A8 := Lib.hid (AkBox.next A2.out hb)
                      clear hb
                      generalize y2.alloc (.cells #[.int .u64 0, .int .u64 0] 37) = y8 at *
                      generalize y2.heap.size = nb at *
                      show K (Act.put _ (some 16) _) y8
                      refine hK.out _ _ (⟨G8.out.sp.box, A8.out⟩) (fun _ => ?_)
                      clear hK K
                      refine wpAnyH_ready (rs := [5]) (by kernel_rfl) (by simp) ?_
                      refine AllReadyH.cons rfl (fun K hK => ?_) (AllReadyH.nil)
                      · refine step_enter (F := 21) (vals := #[.agg #[.int .i64 W, .int .i64 (S : Nat), .int .i64 (B : Nat), .int .i64 T, .slice (some ⟨cb, 0, none⟩) len len], .slice (some ⟨b, 0, none⟩) (2 * S) (2 * S), .agg #[.int .u64 (AQ : Nat), .int .u64 (DQ : Nat)]]) rfl (by kernel_rfl) ?_
                        refine (AP.out _ G8.out).mono ?_
                        rintro e y10 ⟨rfl, hg, ho⟩
                        have G10 := Lib.hid hg
                        have nn := X8.out.1.ne
                        have X10 : Hid (Bx w y10 nb 0 0 N b cb ∧ nb ≠ M ∧ ob ≠ nb ∧ rb ≠ nb ∧ MQ ≠ nb) := ⟨X8.out.1.stay ho (by simp; omega), X8.out.2⟩
                        have E10 := Lib.hid (E8.out.stay ho (by have := E8.out.ne; simp; omega))
                        have A10 := Lib.hid (ho.at A8.out (by simp; omega))
                        clear hg ho
                        show K (Act.put _ (some 157) _) y10
                        refine hK.out _ _ (⟨G10.out.sp.box, A10.out⟩) (fun _ => ?_)
                        clear hK K
                        refine wpAnyH_ready (rs := [7]) (by kernel_rfl) (by simp) ?_
                        refine AllReadyH.cons rfl (fun K hK => ?_) AllReadyH.nil
                        have z0 := X10.out.1.op.z0
                        have z1 := X10.out.1.op.z1
                        have f0 := frozen_of (j := 0) X10.out.1.op
                        have f1 := frozen_of (j := 1) X10.out.1.op
                        have nn := X10.out.1.ne
                        have nM := X10.out.2.1
                        have nX := X10.out.2.2
                        have OO := only_op (w := y10) (n := nb) (.int .u64 (x1 : Nat)) (.int .u64 (x2 : Nat))
                        have GZ := Lib.hid (G10.out.stay OO (by simp; omega))
                        have XZ : Hid (Bx w _ nb (x1) (x2) N b cb ∧ nb ≠ M ∧ ob ≠ nb ∧ rb ≠ nb ∧ MQ ≠ nb) := ⟨⟨X10.out.1.op.set (x1) (x2), nn⟩, nM, nX⟩
                        have EZ := Lib.hid (E10.out.stay OO (by have := E10.out.ne; simp; omega))
                        have AZ := Lib.hid (OO.at A10.out (by simp; omega))
                        go_simp
                        refine hK.out _ _ (⟨GZ.out.sp.box, AZ.out⟩) (fun _ => ?_)
                        refine ⟨by kernel_rfl, ?_⟩
                        refine NoPanic.normal ?_
                        go_wp2_with fail
                        go_meet
                        case rel => exact ⟨nb, rfl, GZ, XZ, EZ, AZ⟩


                  · refine step_value (v := .pointer (some ⟨z0.heap.size, 0, none⟩)) (w' := z0.alloc (.cells #[.int .u64 0, .int .u64 0] 37)) rfl (by kernel_rfl) ?_
                    have hb := box1 z0 (.cells #[.int .u64 0, .int .u64 0] 37)
                    have G12 := Lib.hid (G0.out.next hb)
                    have X12 : Hid (Bx w (z0.alloc (.cells #[.int .u64 0, .int .u64 0] 37)) z0.heap.size 0 0 N b cb ∧ z0.heap.size ≠ M ∧ ob ≠ z0.heap.size ∧ rb ≠ z0.heap.size ∧ MQ ≠ z0.heap.size) := ⟨G0.out.alloc.1, G0.out.alloc.2, ⟨Nat.ne_of_lt (heap_lt E0.out.o), Nat.ne_of_lt (heap_lt E0.out.r), Nat.ne_of_lt (heap_lt A0.out)⟩⟩
                    have E12 := Lib.hid (E0.out.next hb)
                    have A12 := Lib.hid (AkBox.next A0.out hb)
                    clear hb
                    generalize z0.alloc (.cells #[.int .u64 0, .int .u64 0] 37) = y12 at *
                    generalize z0.heap.size = nb at *
                    show K (Act.put _ (some 16) _) y12
                    refine hK.out _ _ (⟨G12.out.sp.box, A12.out⟩) (fun _ => ?_)
                    clear hK K
                    refine wpAnyH_ready (rs := [4]) (by kernel_rfl) (by simp) ?_
                    refine AllReadyH.cons rfl (fun K hK => ?_) (AllReadyH.nil)
                    · refine step_enter (F := 26) (vals := #[.int .i64 n]) rfl (by kernel_rfl) ?_
                      refine (OC.out _ G12.out.sp.fl).mono ?_
                      rintro e y14 ⟨rfl, hb⟩
                      have G14 := Lib.hid (G12.out.next hb)
                      have X14 : Hid (Bx w y14 nb 0 0 N b cb ∧ nb ≠ M ∧ ob ≠ nb ∧ rb ≠ nb ∧ MQ ≠ nb) := ⟨X12.out.1.next hb, X12.out.2⟩
                      have E14 := Lib.hid (E12.out.next hb)
                      have A14 := Lib.hid (AkBox.next A12.out hb)
                      clear hb
                      show K (Act.put _ (some 156) _) y14
                      refine hK.out _ _ (⟨G14.out.sp.box, A14.out⟩) (fun _ => ?_)
                      clear hK K
                      refine wpAnyH_ready (rs := [5]) (by kernel_rfl) (by simp) ?_
                      refine AllReadyH.cons rfl (fun K hK => ?_) (AllReadyH.nil)
                      · refine step_enter (F := 21) (vals := #[.agg #[.int .i64 W, .int .i64 (S : Nat), .int .i64 (B : Nat), .int .i64 T, .slice (some ⟨cb, 0, none⟩) len len], .slice (some ⟨b, 0, none⟩) (2 * S) (2 * S), .agg #[.int .u64 (AQ : Nat), .int .u64 (DQ : Nat)]]) rfl (by kernel_rfl) ?_
                        refine (AP.out _ G14.out).mono ?_
                        rintro e y16 ⟨rfl, hg, ho⟩
                        have G16 := Lib.hid hg
                        have nn := X14.out.1.ne
                        have X16 : Hid (Bx w y16 nb 0 0 N b cb ∧ nb ≠ M ∧ ob ≠ nb ∧ rb ≠ nb ∧ MQ ≠ nb) := ⟨X14.out.1.stay ho (by simp; omega), X14.out.2⟩
                        have E16 := Lib.hid (E14.out.stay ho (by have := E14.out.ne; simp; omega))
                        have A16 := Lib.hid (ho.at A14.out (by simp; omega))
                        clear hg ho
                        show K (Act.put _ (some 157) _) y16
                        refine hK.out _ _ (⟨G16.out.sp.box, A16.out⟩) (fun _ => ?_)
                        clear hK K
                        refine wpAnyH_ready (rs := [7]) (by kernel_rfl) (by simp) ?_
                        refine AllReadyH.cons rfl (fun K hK => ?_) AllReadyH.nil
                        have z0 := X16.out.1.op.z0
                        have z1 := X16.out.1.op.z1
                        have f0 := frozen_of (j := 0) X16.out.1.op
                        have f1 := frozen_of (j := 1) X16.out.1.op
                        have nn := X16.out.1.ne
                        have nM := X16.out.2.1
                        have nX := X16.out.2.2
                        have OO := only_op (w := y16) (n := nb) (.int .u64 (x1 : Nat)) (.int .u64 (x2 : Nat))
                        have GZ := Lib.hid (G16.out.stay OO (by simp; omega))
                        have XZ : Hid (Bx w _ nb (x1) (x2) N b cb ∧ nb ≠ M ∧ ob ≠ nb ∧ rb ≠ nb ∧ MQ ≠ nb) := ⟨⟨X16.out.1.op.set (x1) (x2), nn⟩, nM, nX⟩
                        have EZ := Lib.hid (E16.out.stay OO (by have := E16.out.ne; simp; omega))
                        have AZ := Lib.hid (OO.at A16.out (by simp; omega))
                        go_simp
                        refine hK.out _ _ (⟨GZ.out.sp.box, AZ.out⟩) (fun _ => ?_)
                        refine ⟨by kernel_rfl, ?_⟩
                        refine NoPanic.normal ?_
                        go_wp2_with fail
                        go_meet
                        case rel => exact ⟨nb, rfl, GZ, XZ, EZ, AZ⟩
              case rest =>
                obtain ⟨nb, rfl, G, X, E, A⟩ := hcut
                clear OC AP
                have b0 := X.out.1.op.c0
                have k1' := A.out.c1
                rcases hC.out with ⟨h1, gk⟩ | ⟨i, kk, h1, h2, h3, h4, h5, gk⟩
                · have W1 : IntKind.i64.wrap (x1 : Int) = (x1 : Int) := by rw [IntKind.wrap_i64]; omega
                  have W2 : IntKind.i64.wrap ((x1 : Int) - 1) = -1 := by rw [IntKind.wrap_i64]; omega
                  have GK2 := Lib.hid gk
                  clear h1 gk hC
                  go_wp2_with fail
                  go_meet
                  case rel => exact ⟨l2, O, R, G, E, GK2⟩
                · have W1 : IntKind.i64.wrap (x1 : Int) = (x1 : Int) := by rw [IntKind.wrap_i64]; omega
                  have W2 : IntKind.i64.wrap ((x1 : Int) - 1) = (i : Int) := by rw [IntKind.wrap_i64]; omega
                  have hiS : i < S := by have := hS.out; omega
                  have W3 : IntKind.i64.wrap ((i : Int) + n) = (i : Int) + n := by rw [IntKind.wrap_i64]; omega
                  have g1 : ¬ (S : Int) < (i : Int) + n := by have := hS.out; omega
                  have g2 : decide ((S : Int) < (i : Int) + n) = false := by simpa using g1
                  have g3 : (0 : Int) ≤ (i : Int) := by omega
                  have GK2 := Lib.hid gk
                  have HN := Lib.hid h2
                  have rc := E.out.r.at hiS
                  rw [h5] at rc
                  have rc' : wc.cell? ⟨rb, i, none⟩ = some (.int .i64 0) := rc
                  have ff := frozen_of (j := i) E.out.r
                  clear h1 h2 h3 h4 h5 gk hC rc
                  obtain ⟨c0, c1, c2, c3, c4⟩ := cfg_cells G.out.cfg
                  go_wp2_with fail
                  go_meet
                  case rel =>
                    refine ⟨l2, O, _, ?_, ?_, GK2⟩
                    · rw [HN.out]; exact Lib.hid (G.out.keR E.out _)
                    · rw [HN.out]; exact Lib.hid (E.out.setR kk)

          · as_aux_lemma =>
              obtain ⟨bin, hbin⟩ : ∃ bin, decide (0 ≤ n ∧ n < (S : Int)) = bin := ⟨_, rfl⟩
              have HB := Lib.hid hbin
              clear hbin
              obtain ⟨AQ, DQ, hAQ⟩ : ∃ AQ DQ, Hid (askA 4 n = AQ ∧ askB n 0 = DQ) := ⟨_, _, rfl, rfl⟩
              have hAQ64 : Hid (AQ < 18446744073709551616 ∧ DQ < 18446744073709551616) := by
                have := ask_lt (k := 4) (m := 0) (n := n) (by decide) (by omega)
                rw [hAQ.out.1, hAQ.out.2] at this
                exact this
              have hX : Hid (∃ l2 x1, appP (capN len f) B l (askA 4 n, askB n 0) = (l2, (x1, 0)) ∧ ((∃ i : Nat, n = (i : Int) ∧ i < S ∧ ((x1 = 0 ∧ R i = 0 ∧ GoodK (capN len f) l2 O R) ∨ (x1 = 1 ∧ 0 < R i ∧ GoodK (capN len f) l2 O (fun j => if j = i then 0 else R j)))) ∨ (bin = false ∧ x1 = 0 ∧ GoodK (capN len f) l2 O R))) := Lib.hid (by
                have hb := HB.out
                have hs := hS.out
                by_cases hin : 0 ≤ n ∧ n < (S : Int)
                · obtain ⟨i, hi⟩ := Int.eq_ofNat_of_zero_le hin.1
                  subst hi
                  obtain ⟨l2, x1, h1, _, h2⟩ := keep_give (cap := capN len f) (B := B) GK.out i (by omega) few
                  exact ⟨l2, x1, h1, .inl ⟨i, rfl, by omega, h2⟩⟩
                · rw [decide_eq_false hin] at hb
                  exact ⟨l, 0, keep_give_out n (by omega), .inr ⟨hb.symm, rfl, GK.out⟩⟩)
              obtain ⟨l2, x1, hx', hcase⟩ := hX.out
              rw [hAQ.out.1, hAQ.out.2] at hx'
              obtain ⟨x2, hx2⟩ : ∃ x2 : Nat, x2 = 0 := ⟨0, rfl⟩
              rw [← hx2] at hx'
              have hx := Lib.hid hx'
              have hC := Lib.hid hcase
              clear hx' hcase hx2 hX
              have OC : Hid (∀ y, FldAt y → Calls Tryd.prog 23 #[.int .i64 n] y fun e y' => e = .returned (.agg #[.int .u64 (AQ : Nat), .int .u64 (DQ : Nat)]) ∧ Below y.heap.size y y') := fun y h => by
                have := giveOp_any n y (by omega) (by omega) (Lib.hid h)
                rw [hAQ.out.1, hAQ.out.2] at this
                exact this
              have AP : Hid (∀ y, Su w y M N b cb W T S B len ad cap f (l) → Calls Tryd.prog 21 #[.agg #[.int .i64 W, .int .i64 (S : Nat), .int .i64 (B : Nat), .int .i64 T, .slice (some ⟨cb, 0, none⟩) len len], .slice (some ⟨b, 0, none⟩) (2 * S) (2 * S), .agg #[.int .u64 (AQ : Nat), .int .u64 (DQ : Nat)]] y fun e y' => e = .returned (.agg #[.int .u64 (x1 : Nat), .int .u64 (x2 : Nat)]) ∧ Su w y' M N b cb W T S B len ad cap f (l2) ∧ Only [b] y y') := fun y h => h.asks (c := 2 * S) hAQ64.out.1 hAQ64.out.2 hx.out
              go_upto_region 38 with fail
              go_cut [19] (fun u19 wx => ∃ nb, u19 = .pointer (some ⟨nb, 0, none⟩) ∧ Hid (Su w wx M N b cb W T S B len ad cap f (l2)) ∧ Hid (Bx w wx nb x1 x2 N b cb ∧ nb ≠ M ∧ ob ≠ nb ∧ rb ≠ nb ∧ MQ ≠ nb) ∧ Hid (Ke w wx M N b cb ob rb S (O) (R)) ∧ Hid (AkBox wx MQ 4 n m a d))
              case first =>
                as_aux_lemma =>
                  refine wp_region_noPanic ?_
                  refine wp_region_held_drew (S := fun w' => HBox w' N W (S : Nat) (B : Nat) T (.slice (some ⟨cb, 0, none⟩) len len) ∧ AkBox w' MQ 4 n m a d) (by kernel_rfl) (⟨G.out.sp.box, A.out⟩) (fun hHeld => ?_)
                  have DR := (Below.refl wQ.heap.size wQ).drew
                  have G0 := Lib.hid (G.out.next DR)
                  have E0 := Lib.hid (E.out.next DR)
                  have A0 := Lib.hid (AkBox.next A.out DR)
                  clear DR
                  generalize wQ.drew = z0 at *
                  refine wpAnyH_take (i := 0) (v := .agg #[.int .i64 W, .int .i64 (S : Nat), .int .i64 (B : Nat), .int .i64 T, .slice (some ⟨cb, 0, none⟩) len len]) rfl (by kernel_rfl) (by kernel_rfl) (by kernel_rfl) (fun _ _ _ h => h) (Or.inl ⟨by rfl, fun w hSw => by obtain ⟨hB, hA⟩ := hSw; have c0 := HBox.c0 hB; have c1 := HBox.c1 hB; have c2 := HBox.c2 hB; have c3 := HBox.c3 hB; have c4 := HBox.c4 hB; have a0 := AkBox.c0 hA; have a1 := AkBox.c1 hA; have a2 := AkBox.c2 hA; go_simp⟩) (by assumption) ?_
                  change wpAnyH _ _ _ _ _ _ _ (Act.put _ (some 187) _) _
                  simp only [Act.put, List.setIfInBounds_toArray, List.set_cons_zero, List.set_cons_succ]
                  refine wpAnyH_take (i := 1) (v := .slice (some ⟨b, 0, none⟩) (2 * S) (2 * S)) rfl (by kernel_rfl) (by kernel_rfl) (by kernel_rfl) (fun _ _ _ h => h) (Or.inl ⟨by rfl, fun w hSw => by obtain ⟨hB, hA⟩ := hSw; have c0 := HBox.c0 hB; have c1 := HBox.c1 hB; have c2 := HBox.c2 hB; have c3 := HBox.c3 hB; have c4 := HBox.c4 hB; have a0 := AkBox.c0 hA; have a1 := AkBox.c1 hA; have a2 := AkBox.c2 hA; go_simp⟩) (by assumption) ?_
                  change wpAnyH _ _ _ _ _ _ _ (Act.put _ (some 188) _) _
                  simp only [Act.put, List.setIfInBounds_toArray, List.set_cons_zero, List.set_cons_succ]
                  refine wpAnyH_take (i := 2) (v := .int .i64 n) rfl (by kernel_rfl) (by kernel_rfl) (by kernel_rfl) (fun _ _ _ h => h) (Or.inl ⟨by rfl, fun w hSw => by obtain ⟨hB, hA⟩ := hSw; have c0 := HBox.c0 hB; have c1 := HBox.c1 hB; have c2 := HBox.c2 hB; have c3 := HBox.c3 hB; have c4 := HBox.c4 hB; have a0 := AkBox.c0 hA; have a1 := AkBox.c1 hA; have a2 := AkBox.c2 hA; go_simp⟩) (by assumption) ?_
                  change wpAnyH _ _ _ _ _ _ _ (Act.put _ (some 189) _) _
                  simp only [Act.put, List.setIfInBounds_toArray, List.set_cons_zero, List.set_cons_succ]
                  refine wpAnyH_ready (rs := [3, 5]) (by kernel_rfl) (by simp) ?_
                  refine AllReadyH.cons rfl (fun K hK => ?_) (AllReadyH.cons rfl (fun K hK => ?_) (AllReadyH.nil))
                  · refine step_enter (F := 23) (vals := #[.int .i64 n]) rfl (by kernel_rfl) ?_
                    refine (OC.out _ G0.out.sp.fl).mono ?_
                    rintro e y2 ⟨rfl, hb⟩
                    have G2 := Lib.hid (G0.out.next hb)
                    have E2 := Lib.hid (E0.out.next hb)
                    have A2 := Lib.hid (AkBox.next A0.out hb)
                    clear hb
                    show K (Act.put _ (some 190) _) y2
                    refine hK.out _ _ (⟨G2.out.sp.box, A2.out⟩) (fun _ => ?_)
                    clear hK K
                    refine wpAnyH_ready (rs := [4, 5]) (by kernel_rfl) (by simp) ?_
                    refine AllReadyH.cons rfl (fun K hK => ?_) (AllReadyH.cons rfl (fun K hK => ?_) (AllReadyH.nil))
                    · refine step_enter (F := 21) (vals := #[.agg #[.int .i64 W, .int .i64 (S : Nat), .int .i64 (B : Nat), .int .i64 T, .slice (some ⟨cb, 0, none⟩) len len], .slice (some ⟨b, 0, none⟩) (2 * S) (2 * S), .agg #[.int .u64 (AQ : Nat), .int .u64 (DQ : Nat)]]) rfl (by kernel_rfl) ?_
                      refine (AP.out _ G2.out).mono ?_
                      rintro e y4 ⟨rfl, hg, ho⟩
                      have G4 := Lib.hid hg
                      have E4 := Lib.hid (E2.out.stay ho (by have := E2.out.ne; simp; omega))
                      have A4 := Lib.hid (ho.at A2.out (by simp; omega))
                      clear hg ho
                      show K (Act.put _ (some 191) _) y4
                      refine hK.out _ _ (⟨G4.out.sp.box, A4.out⟩) (fun _ => ?_)
                      clear hK K
                      refine wpAnyH_ready (rs := [5]) (by kernel_rfl) (by simp) ?_
                      refine AllReadyH.cons rfl (fun K hK => ?_) (AllReadyH.nil)
                      · refine step_value (v := .pointer (some ⟨y4.heap.size, 0, none⟩)) (w' := y4.alloc (.cells #[.int .u64 0, .int .u64 0] 37)) rfl (by kernel_rfl) ?_
                        have hb := box1 y4 (.cells #[.int .u64 0, .int .u64 0] 37)
                        have G6 := Lib.hid (G4.out.next hb)
                        have X6 : Hid (Bx w (y4.alloc (.cells #[.int .u64 0, .int .u64 0] 37)) y4.heap.size 0 0 N b cb ∧ y4.heap.size ≠ M ∧ ob ≠ y4.heap.size ∧ rb ≠ y4.heap.size ∧ MQ ≠ y4.heap.size) := ⟨G4.out.alloc.1, G4.out.alloc.2, ⟨Nat.ne_of_lt (heap_lt E4.out.o), Nat.ne_of_lt (heap_lt E4.out.r), Nat.ne_of_lt (heap_lt A4.out)⟩⟩
                        have E6 := Lib.hid (E4.out.next hb)
                        have A6 := Lib.hid (AkBox.next A4.out hb)
                        clear hb
                        generalize y4.alloc (.cells #[.int .u64 0, .int .u64 0] 37) = y6 at *
                        generalize y4.heap.size = nb at *
                        show K (Act.put _ (some 19) _) y6
                        refine hK.out _ _ (⟨G6.out.sp.box, A6.out⟩) (fun _ => ?_)
                        clear hK K
                        refine wpAnyH_ready (rs := [6]) (by kernel_rfl) (by simp) ?_
                        refine AllReadyH.cons rfl (fun K hK => ?_) AllReadyH.nil
                        have z0 := X6.out.1.op.z0
                        have z1 := X6.out.1.op.z1
                        have f0 := frozen_of (j := 0) X6.out.1.op
                        have f1 := frozen_of (j := 1) X6.out.1.op
                        have nn := X6.out.1.ne
                        have nM := X6.out.2.1
                        have nX := X6.out.2.2
                        have OO := only_op (w := y6) (n := nb) (.int .u64 (x1 : Nat)) (.int .u64 (x2 : Nat))
                        have GZ := Lib.hid (G6.out.stay OO (by simp; omega))
                        have XZ : Hid (Bx w _ nb (x1) (x2) N b cb ∧ nb ≠ M ∧ ob ≠ nb ∧ rb ≠ nb ∧ MQ ≠ nb) := ⟨⟨X6.out.1.op.set (x1) (x2), nn⟩, nM, nX⟩
                        have EZ := Lib.hid (E6.out.stay OO (by have := E6.out.ne; simp; omega))
                        have AZ := Lib.hid (OO.at A6.out (by simp; omega))
                        go_simp
                        refine hK.out _ _ (⟨GZ.out.sp.box, AZ.out⟩) (fun _ => ?_)
                        refine ⟨by kernel_rfl, ?_⟩
                        refine NoPanic.normal ?_
                        go_wp2_with fail
                        go_meet
                        case rel => exact ⟨nb, rfl, GZ, XZ, EZ, AZ⟩

                    · refine step_value (v := .pointer (some ⟨y2.heap.size, 0, none⟩)) (w' := y2.alloc (.cells #[.int .u64 0, .int .u64 0] 37)) rfl (by kernel_rfl) ?_
                      have hb := box1 y2 (.cells #[.int .u64 0, .int .u64 0] 37)
                      have G8 := Lib.hid (G2.out.next hb)
                      have X8 : Hid (Bx w (y2.alloc (.cells #[.int .u64 0, .int .u64 0] 37)) y2.heap.size 0 0 N b cb ∧ y2.heap.size ≠ M ∧ ob ≠ y2.heap.size ∧ rb ≠ y2.heap.size ∧ MQ ≠ y2.heap.size) := ⟨G2.out.alloc.1, G2.out.alloc.2, ⟨Nat.ne_of_lt (heap_lt E2.out.o), Nat.ne_of_lt (heap_lt E2.out.r), Nat.ne_of_lt (heap_lt A2.out)⟩⟩
                      have E8 := Lib.hid (E2.out.next hb)
                      have A8 := Lib.hid (AkBox.next A2.out hb)
                      clear hb
                      generalize y2.alloc (.cells #[.int .u64 0, .int .u64 0] 37) = y8 at *
                      generalize y2.heap.size = nb at *
                      show K (Act.put _ (some 19) _) y8
                      refine hK.out _ _ (⟨G8.out.sp.box, A8.out⟩) (fun _ => ?_)
                      clear hK K
                      refine wpAnyH_ready (rs := [4]) (by kernel_rfl) (by simp) ?_
                      refine AllReadyH.cons rfl (fun K hK => ?_) (AllReadyH.nil)
                      · refine step_enter (F := 21) (vals := #[.agg #[.int .i64 W, .int .i64 (S : Nat), .int .i64 (B : Nat), .int .i64 T, .slice (some ⟨cb, 0, none⟩) len len], .slice (some ⟨b, 0, none⟩) (2 * S) (2 * S), .agg #[.int .u64 (AQ : Nat), .int .u64 (DQ : Nat)]]) rfl (by kernel_rfl) ?_
                        refine (AP.out _ G8.out).mono ?_
                        rintro e y10 ⟨rfl, hg, ho⟩
                        have G10 := Lib.hid hg
                        have nn := X8.out.1.ne
                        have X10 : Hid (Bx w y10 nb 0 0 N b cb ∧ nb ≠ M ∧ ob ≠ nb ∧ rb ≠ nb ∧ MQ ≠ nb) := ⟨X8.out.1.stay ho (by simp; omega), X8.out.2⟩
                        have E10 := Lib.hid (E8.out.stay ho (by have := E8.out.ne; simp; omega))
                        have A10 := Lib.hid (ho.at A8.out (by simp; omega))
                        clear hg ho
                        show K (Act.put _ (some 191) _) y10
                        refine hK.out _ _ (⟨G10.out.sp.box, A10.out⟩) (fun _ => ?_)
                        clear hK K
                        refine wpAnyH_ready (rs := [6]) (by kernel_rfl) (by simp) ?_
                        refine AllReadyH.cons rfl (fun K hK => ?_) AllReadyH.nil
                        have z0 := X10.out.1.op.z0
                        have z1 := X10.out.1.op.z1
                        have f0 := frozen_of (j := 0) X10.out.1.op
                        have f1 := frozen_of (j := 1) X10.out.1.op
                        have nn := X10.out.1.ne
                        have nM := X10.out.2.1
                        have nX := X10.out.2.2
                        have OO := only_op (w := y10) (n := nb) (.int .u64 (x1 : Nat)) (.int .u64 (x2 : Nat))
                        have GZ := Lib.hid (G10.out.stay OO (by simp; omega))
                        have XZ : Hid (Bx w _ nb (x1) (x2) N b cb ∧ nb ≠ M ∧ ob ≠ nb ∧ rb ≠ nb ∧ MQ ≠ nb) := ⟨⟨X10.out.1.op.set (x1) (x2), nn⟩, nM, nX⟩
                        have EZ := Lib.hid (E10.out.stay OO (by have := E10.out.ne; simp; omega))
                        have AZ := Lib.hid (OO.at A10.out (by simp; omega))
                        go_simp
                        refine hK.out _ _ (⟨GZ.out.sp.box, AZ.out⟩) (fun _ => ?_)
                        refine ⟨by kernel_rfl, ?_⟩
                        refine NoPanic.normal ?_
                        go_wp2_with fail
                        go_meet
                        case rel => exact ⟨nb, rfl, GZ, XZ, EZ, AZ⟩


                  · refine step_value (v := .pointer (some ⟨z0.heap.size, 0, none⟩)) (w' := z0.alloc (.cells #[.int .u64 0, .int .u64 0] 37)) rfl (by kernel_rfl) ?_
                    have hb := box1 z0 (.cells #[.int .u64 0, .int .u64 0] 37)
                    have G12 := Lib.hid (G0.out.next hb)
                    have X12 : Hid (Bx w (z0.alloc (.cells #[.int .u64 0, .int .u64 0] 37)) z0.heap.size 0 0 N b cb ∧ z0.heap.size ≠ M ∧ ob ≠ z0.heap.size ∧ rb ≠ z0.heap.size ∧ MQ ≠ z0.heap.size) := ⟨G0.out.alloc.1, G0.out.alloc.2, ⟨Nat.ne_of_lt (heap_lt E0.out.o), Nat.ne_of_lt (heap_lt E0.out.r), Nat.ne_of_lt (heap_lt A0.out)⟩⟩
                    have E12 := Lib.hid (E0.out.next hb)
                    have A12 := Lib.hid (AkBox.next A0.out hb)
                    clear hb
                    generalize z0.alloc (.cells #[.int .u64 0, .int .u64 0] 37) = y12 at *
                    generalize z0.heap.size = nb at *
                    show K (Act.put _ (some 19) _) y12
                    refine hK.out _ _ (⟨G12.out.sp.box, A12.out⟩) (fun _ => ?_)
                    clear hK K
                    refine wpAnyH_ready (rs := [3]) (by kernel_rfl) (by simp) ?_
                    refine AllReadyH.cons rfl (fun K hK => ?_) (AllReadyH.nil)
                    · refine step_enter (F := 23) (vals := #[.int .i64 n]) rfl (by kernel_rfl) ?_
                      refine (OC.out _ G12.out.sp.fl).mono ?_
                      rintro e y14 ⟨rfl, hb⟩
                      have G14 := Lib.hid (G12.out.next hb)
                      have X14 : Hid (Bx w y14 nb 0 0 N b cb ∧ nb ≠ M ∧ ob ≠ nb ∧ rb ≠ nb ∧ MQ ≠ nb) := ⟨X12.out.1.next hb, X12.out.2⟩
                      have E14 := Lib.hid (E12.out.next hb)
                      have A14 := Lib.hid (AkBox.next A12.out hb)
                      clear hb
                      show K (Act.put _ (some 190) _) y14
                      refine hK.out _ _ (⟨G14.out.sp.box, A14.out⟩) (fun _ => ?_)
                      clear hK K
                      refine wpAnyH_ready (rs := [4]) (by kernel_rfl) (by simp) ?_
                      refine AllReadyH.cons rfl (fun K hK => ?_) (AllReadyH.nil)
                      · refine step_enter (F := 21) (vals := #[.agg #[.int .i64 W, .int .i64 (S : Nat), .int .i64 (B : Nat), .int .i64 T, .slice (some ⟨cb, 0, none⟩) len len], .slice (some ⟨b, 0, none⟩) (2 * S) (2 * S), .agg #[.int .u64 (AQ : Nat), .int .u64 (DQ : Nat)]]) rfl (by kernel_rfl) ?_
                        refine (AP.out _ G14.out).mono ?_
                        rintro e y16 ⟨rfl, hg, ho⟩
                        have G16 := Lib.hid hg
                        have nn := X14.out.1.ne
                        have X16 : Hid (Bx w y16 nb 0 0 N b cb ∧ nb ≠ M ∧ ob ≠ nb ∧ rb ≠ nb ∧ MQ ≠ nb) := ⟨X14.out.1.stay ho (by simp; omega), X14.out.2⟩
                        have E16 := Lib.hid (E14.out.stay ho (by have := E14.out.ne; simp; omega))
                        have A16 := Lib.hid (ho.at A14.out (by simp; omega))
                        clear hg ho
                        show K (Act.put _ (some 191) _) y16
                        refine hK.out _ _ (⟨G16.out.sp.box, A16.out⟩) (fun _ => ?_)
                        clear hK K
                        refine wpAnyH_ready (rs := [6]) (by kernel_rfl) (by simp) ?_
                        refine AllReadyH.cons rfl (fun K hK => ?_) AllReadyH.nil
                        have z0 := X16.out.1.op.z0
                        have z1 := X16.out.1.op.z1
                        have f0 := frozen_of (j := 0) X16.out.1.op
                        have f1 := frozen_of (j := 1) X16.out.1.op
                        have nn := X16.out.1.ne
                        have nM := X16.out.2.1
                        have nX := X16.out.2.2
                        have OO := only_op (w := y16) (n := nb) (.int .u64 (x1 : Nat)) (.int .u64 (x2 : Nat))
                        have GZ := Lib.hid (G16.out.stay OO (by simp; omega))
                        have XZ : Hid (Bx w _ nb (x1) (x2) N b cb ∧ nb ≠ M ∧ ob ≠ nb ∧ rb ≠ nb ∧ MQ ≠ nb) := ⟨⟨X16.out.1.op.set (x1) (x2), nn⟩, nM, nX⟩
                        have EZ := Lib.hid (E16.out.stay OO (by have := E16.out.ne; simp; omega))
                        have AZ := Lib.hid (OO.at A16.out (by simp; omega))
                        go_simp
                        refine hK.out _ _ (⟨GZ.out.sp.box, AZ.out⟩) (fun _ => ?_)
                        refine ⟨by kernel_rfl, ?_⟩
                        refine NoPanic.normal ?_
                        go_wp2_with fail
                        go_meet
                        case rel => exact ⟨nb, rfl, GZ, XZ, EZ, AZ⟩
              case rest =>
                obtain ⟨nb, rfl, G, X, E, A⟩ := hcut
                clear OC AP
                have b0 := X.out.1.op.c0
                obtain ⟨c0, c1, c2, c3, c4⟩ := cfg_cells G.out.cfg
                rcases hC.out with ⟨i, hi, hiS, h⟩ | ⟨hb, h1, gk⟩
                · have TN : n.toNat = i := by omega
                  have g0 : (0 : Int) ≤ n := by omega
                  have gS1 : n < (S : Int) := by omega
                  have gd0 : decide ((0 : Int) ≤ n) = true := by simpa using g0
                  have gdS : decide (n < (S : Int)) = true := by simpa using gS1
                  clear hi
                  obtain ⟨r, hr2⟩ : ∃ r, R i = r := ⟨_, rfl⟩
                  have VR := Lib.hid hr2
                  rw [hr2] at h
                  clear hr2
                  rcases h with ⟨h1, h2, gk⟩ | ⟨h1, h2, gk⟩
                  · have GK2 := Lib.hid gk
                    have rc := E.out.r.at hiS
                    rw [VR.out] at rc
                    have gx1e : ((x1 : Int) == 1) = false := by simp; omega
                    have gx1n : ((x1 : Int) != 1) = true := by simp; omega
                    have gr : decide ((0 : Int) < (r : Int)) = false := by simp; omega
                    have gr2 : ¬ (0 : Int) < (r : Int) := by omega
                    have gr3 : decide (0 < r) = false := by simp; omega
                    have gr4 : ¬ 0 < r := by omega
                    clear h1 h2 gk
                    go_upto_region 39 with fail
                    have j2 := cell_regrown rc
                    have j0 := cell_regrown b0
                    have j1 := cell_regrown c1
                    refine wp_region_quiet_below (by kernel_rfl) (by kernel_rfl) ?_
                    repeat (go_big_quiet_step (fail))
                    refine wpQuiet_nil ?_
                    intro _ hw'
                    obtain ⟨⟨dq, osq⟩, hw''⟩ := hw'
                    subst hw''
                    have G2 := Lib.hid (G.out.next (below_regrown wc dq osq))
                    have E2 := Lib.hid (E.out.next (below_regrown wc dq osq))
                    have X2 : Hid (OpBox _ nb x1 x2) := X.out.1.op.next (below_regrown wc dq osq)
                    clear j0 j1 b0 c0 c1 c2 c3 c4 G E X A
                    generalize Sort.grow (redrawn wc dq) osq = wY at *
                    have G := G2
                    have E := E2
                    have b0 := X2.out.c0
                    clear j2 rc
                    go_wp2_with fail
                    go_meet
                    case rel => exact ⟨l2, O, R, G, E, GK2⟩
                  · have GK2 := Lib.hid gk
                    have rc := E.out.r.at hiS
                    rw [VR.out] at rc
                    have gx1e : ((x1 : Int) == 1) = true := by simp; omega
                    have gx1n : ((x1 : Int) != 1) = false := by simp; omega
                    have gr : decide ((0 : Int) < (r : Int)) = true := by simp; omega
                    have gr2 : (0 : Int) < (r : Int) := by omega
                    have gr3 : decide (0 < r) = true := by simp; omega
                    have gr4 : 0 < r := by omega
                    clear h1 h2 gk
                    go_upto_region 39 with fail
                    have j2 := cell_regrown rc
                    have j0 := cell_regrown b0
                    have j1 := cell_regrown c1
                    refine wp_region_quiet_below (by kernel_rfl) (by kernel_rfl) ?_
                    repeat (go_big_quiet_step (fail))
                    refine wpQuiet_nil ?_
                    intro _ hw'
                    obtain ⟨⟨dq, osq⟩, hw''⟩ := hw'
                    subst hw''
                    have G2 := Lib.hid (G.out.next (below_regrown wc dq osq))
                    have E2 := Lib.hid (E.out.next (below_regrown wc dq osq))
                    have X2 : Hid (OpBox _ nb x1 x2) := X.out.1.op.next (below_regrown wc dq osq)
                    clear j0 j1 b0 c0 c1 c2 c3 c4 G E X A
                    generalize Sort.grow (redrawn wc dq) osq = wY at *
                    have G := G2
                    have E := E2
                    have b0 := X2.out.c0
                    clear j2 rc
                    have rc := E.out.r.at hiS
                    have ff := frozen_of (j := i) E.out.r
                    go_wp2_with fail
                    go_meet
                    case rel => exact ⟨l2, O, _, Lib.hid (G.out.keR E.out _), Lib.hid (E.out.setR 0), GK2⟩
                · have GK2 := Lib.hid gk
                  have hout := of_decide_eq_false (HB.out.trans hb)
                  have gx1e : ((x1 : Int) == 1) = false := by simp; omega
                  have gx1n : ((x1 : Int) != 1) = true := by simp; omega
                  clear h1 gk hb
                  rcases (by omega : n < 0 ∨ (S : Int) ≤ n) with hneg | hbig
                  · have gd0 : decide ((0 : Int) ≤ n) = false := by simpa using hneg
                    clear hout
                    go_upto_region 39 with fail
                    have j0 := cell_regrown b0
                    have j1 := cell_regrown c1
                    refine wp_region_quiet_below (by kernel_rfl) (by kernel_rfl) ?_
                    repeat (go_big_quiet_step (fail))
                    refine wpQuiet_nil ?_
                    intro _ hw'
                    obtain ⟨⟨dq, osq⟩, hw''⟩ := hw'
                    subst hw''
                    have G2 := Lib.hid (G.out.next (below_regrown wc dq osq))
                    have E2 := Lib.hid (E.out.next (below_regrown wc dq osq))
                    have X2 : Hid (OpBox _ nb x1 x2) := X.out.1.op.next (below_regrown wc dq osq)
                    clear j0 j1 b0 c0 c1 c2 c3 c4 G E X A
                    generalize Sort.grow (redrawn wc dq) osq = wY at *
                    have G := G2
                    have E := E2
                    have b0 := X2.out.c0
                    go_wp2_with fail
                    go_meet
                    case rel => exact ⟨l2, O, R, G, E, GK2⟩
                  · have g0 : (0 : Int) ≤ n := by omega
                    have gd0 : decide ((0 : Int) ≤ n) = true := by simpa using g0
                    have gdS : decide (n < (S : Int)) = false := by simp; omega
                    clear hout
                    go_upto_region 39 with fail
                    have j0 := cell_regrown b0
                    have j1 := cell_regrown c1
                    refine wp_region_quiet_below (by kernel_rfl) (by kernel_rfl) ?_
                    repeat (go_big_quiet_step (fail))
                    refine wpQuiet_nil ?_
                    intro _ hw'
                    obtain ⟨⟨dq, osq⟩, hw''⟩ := hw'
                    subst hw''
                    have G2 := Lib.hid (G.out.next (below_regrown wc dq osq))
                    have E2 := Lib.hid (E.out.next (below_regrown wc dq osq))
                    have X2 : Hid (OpBox _ nb x1 x2) := X.out.1.op.next (below_regrown wc dq osq)
                    clear j0 j1 b0 c0 c1 c2 c3 c4 G E X A
                    generalize Sort.grow (redrawn wc dq) osq = wY at *
                    have G := G2
                    have E := E2
                    have b0 := X2.out.c0
                    go_wp2_with fail
                    go_meet
                    case rel => exact ⟨l2, O, R, G, E, GK2⟩

          · have u1 : decide (k = 1) = false := by simpa using u1
            have u2 : decide (k = 2) = false := by simpa using u2
            have u3 : decide (k = 3) = false := by simpa using u3
            have u4 : decide (k = 4) = false := by simpa using u4
            clear c0 c1 c2 c3 c4
            go_wp2_with fail
            go_meet
            case rel => exact ⟨l, O, R, G, E, GK⟩
        case rest =>
          obtain ⟨l2, O2, R2, G, E, GK⟩ := hcut
          clear k0 k1 k2 c0 c1 c2 c3 c4
          have WA := Lib.hid (G.out.whole E.out hr.out GK.out)
          obtain ⟨c0, c1, c2, c3, c4⟩ := cfg_cells G.out.cfg
          go_wp2_with fail
          refine WA.out.mono ?_
          rintro e wz ⟨rfl, hb⟩
          have GZ := Lib.hid (G.out.next hb)
          have EZ := Lib.hid (E.out.next hb)
          clear hb WA c0 c1 c2 c3 c4
          go_wp2_with fail
          go_roundw
          case rel => exact ⟨j + 1, l2, O2, R2, by omega, by push_cast; rfl, GZ, EZ, GK⟩
          case measure => simp [intOf]; omega
      · obtain rfl : j = n0 := by omega
        go_wp2_with fail
        go_ret
        exact ⟨rfl, G.out.sp.be⟩
set_option maxRecDepth 20000 in
set_option maxHeartbeats 4000000 in
theorem hkeeps_no (W S B T : Int) (ad : Option Addr) (len cap : Nat) (f : Nat → Int) (aa : Option Addr) (n0 c : Nat) (w : World) (hr : Hid (RowI w ad len f)) (hl : len < 9223372036854775808) (hF : Hid (FldAt w)) (hm : Hid (mayB W S B T len f = false)) :
    Calls Tryd.prog 5 #[.agg #[.int .i64 W, .int .i64 S, .int .i64 B, .int .i64 T, .slice ad len cap], .slice aa n0 c] w fun e w' => e = .returned (.bool true) ∧ Below w.heap.size w w' := by
  have K0 : Hid (Ar w (w.alloc (.cells #[.int .i64 W, .int .i64 S, .int .i64 B, .int .i64 T, .slice ad len cap] 24)) w.heap.size W S B T ad len cap f) := Ar.start hr.out
  have F0 := Lib.hid (hF.out.next (box1 w (.cells #[.int .i64 W, .int .i64 S, .int .i64 B, .int .i64 T, .slice ad len cap] 24)))
  go_enter Tryd.func5, Tryd.ntmps5
  go_wp2_with fail
  generalize w.alloc (.cells #[.int .i64 W, .int .i64 S, .int .i64 B, .int .i64 T, .slice ad len cap] 24) = w0 at *
  generalize hM : w.heap.size = M at *
  refine (speaks11 _ F0).mono ?_
  rintro e wa ⟨rfl, hb⟩
  have K1 := Lib.hid (K0.out.next hb)
  clear hb K0 F0
  obtain ⟨c0, c1, c2, c3, c4⟩ := cfg_cells K1.out.c
  go_wp2_with fail
  refine (rmay_any W S B T ad len cap f _ (Lib.hid K1.out.r) hl).mono ?_
  rintro e wb ⟨he, hb⟩
  obtain rfl : e = .returned (.bool false) := by rw [he, hm.out]
  have K2 := Lib.hid (K1.out.next hb)
  clear hb K1 c0 c1 c2 c3 c4 he
  go_wp2_with fail
  go_ret
  exact ⟨rfl, by rw [hM]; exact K2.out.b⟩
set_option maxRecDepth 20000 in
set_option maxHeartbeats 4000000 in
theorem hkeeps_many (W S B T : Int) (ad : Option Addr) (len cap : Nat) (f : Nat → Int) (aa : Option Addr) (n0 c : Nat) (w : World) (hr : Hid (RowI w ad len f)) (hl : len < 9223372036854775808) (hF : Hid (FldAt w)) (hm : Hid (mayB W S B T len f = true)) (hn : 100 < n0) :
    Calls Tryd.prog 5 #[.agg #[.int .i64 W, .int .i64 S, .int .i64 B, .int .i64 T, .slice ad len cap], .slice aa n0 c] w fun e w' => e = .returned (.bool true) ∧ Below w.heap.size w w' := by
  have K0 : Hid (Ar w (w.alloc (.cells #[.int .i64 W, .int .i64 S, .int .i64 B, .int .i64 T, .slice ad len cap] 24)) w.heap.size W S B T ad len cap f) := Ar.start hr.out
  have F0 := Lib.hid (hF.out.next (box1 w (.cells #[.int .i64 W, .int .i64 S, .int .i64 B, .int .i64 T, .slice ad len cap] 24)))
  go_enter Tryd.func5, Tryd.ntmps5
  go_wp2_with fail
  generalize w.alloc (.cells #[.int .i64 W, .int .i64 S, .int .i64 B, .int .i64 T, .slice ad len cap] 24) = w0 at *
  generalize hM : w.heap.size = M at *
  refine (speaks11 _ F0).mono ?_
  rintro e wa ⟨rfl, hb⟩
  have K1 := Lib.hid (K0.out.next hb)
  clear hb K0 F0
  obtain ⟨c0, c1, c2, c3, c4⟩ := cfg_cells K1.out.c
  go_wp2_with fail
  refine (rmay_any W S B T ad len cap f _ (Lib.hid K1.out.r) hl).mono ?_
  rintro e wb ⟨he, hb⟩
  obtain rfl : e = .returned (.bool true) := by rw [he, hm.out]
  have K2 := Lib.hid (K1.out.next hb)
  clear hb K1 c0 c1 c2 c3 c4 he
  have l3 : (100 : Int) < (n0 : Int) := by omega
  go_wp2_with fail
  go_ret
  exact ⟨rfl, by rw [hM]; exact K2.out.b⟩

theorem hkeeps_walk (W S B T : Int) (ad : Option Addr) (len cap : Nat) (f : Nat → Int) (aa : Option Addr) (n c : Nat) (Q : Nat → Qk) (w : World) (hr : RowI w ad len f) (hl : len < 9223372036854775808) (hz : RowK w aa n Q) (hF : FldAt w) :
    Calls Tryd.prog 5 #[.agg #[.int .i64 W, .int .i64 S, .int .i64 B, .int .i64 T, .slice ad len cap], .slice aa n c] w fun e w' => e = .returned (.bool true) ∧ Below w.heap.size w w' := by
  rcases h : mayB W S B T len f with _ | _
  · exact hkeeps_no W S B T ad len cap f aa n c w hr hl hF h
  · obtain ⟨_, ⟨s1, _⟩, ⟨b1, _⟩, _⟩ := may_nums h
    obtain ⟨S, rfl⟩ := Int.eq_ofNat_of_zero_le (show 0 ≤ S by omega)
    obtain ⟨B, rfl⟩ := Int.eq_ofNat_of_zero_le (show 0 ≤ B by omega)
    by_cases h2 : n ≤ 100
    · exact hkeeps_yes W T S B ad len cap f aa n c Q w hr hl hF h hz h2
    · exact hkeeps_many W S B T ad len cap f aa n c w hr hl hF h (by omega)
end Go.Proofs.YtkogeeaoppkhkaaDoor
